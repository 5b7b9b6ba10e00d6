/- The document's tables: its switches read off. -/
import Derived.Test.YtlignhpbmbdoeaaDoorSw
namespace Go.Proofs.YtlignhpbmbdoeaaDoor
open Go.RowKit
def Gx.k_class1 : List (List (Int × Int) × Value) := [([(13, 13)], .int .i64 1), ([(10, 10)], .int .i64 2), ([(0, 9), (11, 12), (14, 31), (127, 159), (173, 173), (1564, 1564)], .int .i64 3), ([(768, 879), (1155, 1161), (1425, 1469), (1471, 1471), (1473, 1474), (1476, 1477), (1479, 1479), (1552, 1562), (1611, 1631), (1648, 1648), (1750, 1756), (1759, 1764), (1767, 1768), (1770, 1773), (1809, 1809), (1840, 1866), (1958, 1968), (2027, 2035), (2045, 2045), (2070, 2073), (2075, 2083), (2085, 2087), (2089, 2093), (2137, 2139), (2200, 2207), (2250, 2273), (2275, 2306), (2362, 2362), (2364, 2364), (2369, 2376), (2381, 2381), (2385, 2391), (2402, 2403), (2433, 2433), (2492, 2492), (2494, 2494), (2497, 2500), (2509, 2509), (2519, 2519), (2530, 2531), (2558, 2558), (2561, 2562), (2620, 2620), (2625, 2626), (2631, 2632), (2635, 2637), (2641, 2641), (2672, 2673), (2677, 2677), (2689, 2690), (2748, 2748), (2753, 2757), (2759, 2760), (2765, 2765), (2786, 2787), (2810, 2815), (2817, 2817), (2876, 2876), (2878, 2879), (2881, 2884), (2893, 2893), (2901, 2903), (2914, 2915), (2946, 2946), (3006, 3006), (3008, 3008), (3021, 3021), (3031, 3031), (3072, 3072)], .int .i64 4), ([(1536, 1541), (1757, 1757), (1807, 1807), (2192, 2193), (2274, 2274)], .int .i64 7), ([(2307, 2307), (2363, 2363), (2366, 2368), (2377, 2380), (2382, 2383), (2434, 2435), (2495, 2496), (2503, 2504), (2507, 2508), (2563, 2563), (2622, 2624), (2691, 2691), (2750, 2752), (2761, 2761), (2763, 2764), (2818, 2819), (2880, 2880), (2887, 2888), (2891, 2892), (3007, 3007), (3009, 3010), (3014, 3016), (3018, 3020), (3073, 3075)], .int .i64 8), ([(169, 169), (174, 174)], .int .i64 14)]
def Gx.k_class2 : List (List (Int × Int) × Value) := [([(6158, 6158), (8203, 8203), (8206, 8207), (8232, 8238), (8288, 8303)], .int .i64 3), ([(3076, 3076), (3132, 3132), (3134, 3136), (3142, 3144), (3146, 3149), (3157, 3158), (3170, 3171), (3201, 3201), (3260, 3260), (3263, 3263), (3266, 3266), (3270, 3270), (3276, 3277), (3285, 3286), (3298, 3299), (3328, 3329), (3387, 3388), (3390, 3390), (3393, 3396), (3405, 3405), (3415, 3415), (3426, 3427), (3457, 3457), (3530, 3530), (3535, 3535), (3538, 3540), (3542, 3542), (3551, 3551), (3633, 3633), (3636, 3642), (3655, 3662), (3761, 3761), (3764, 3772), (3784, 3790), (3864, 3865), (3893, 3893), (3895, 3895), (3897, 3897), (3953, 3966), (3968, 3972), (3974, 3975), (3981, 3991), (3993, 4028), (4038, 4038), (4141, 4144), (4146, 4151), (4153, 4154), (4157, 4158), (4184, 4185), (4190, 4192), (4209, 4212), (4226, 4226), (4229, 4230), (4237, 4237), (4253, 4253), (4957, 4959), (6068, 6069), (6071, 6077), (6086, 6086), (6089, 6099), (6109, 6109), (6155, 6157), (6159, 6159), (6313, 6313), (6832, 6862), (7616, 7679), (8204, 8204), (8400, 8432)], .int .i64 4), ([(8205, 8205)], .int .i64 5), ([(3406, 3406)], .int .i64 7), ([(3137, 3140), (3202, 3203), (3262, 3262), (3264, 3265), (3267, 3268), (3271, 3272), (3274, 3275), (3315, 3315), (3330, 3331), (3391, 3392), (3398, 3400), (3402, 3404), (3458, 3459), (3536, 3537), (3544, 3550), (3570, 3571), (3635, 3635), (3763, 3763), (3902, 3903), (3967, 3967), (4145, 4145), (4155, 4156), (4182, 4183), (4228, 4228), (6070, 6070), (6078, 6085), (6087, 6088)], .int .i64 8), ([(4352, 4447)], .int .i64 9), ([(4448, 4519)], .int .i64 10), ([(4520, 4607)], .int .i64 11), ([(8252, 8252), (8265, 8265), (8482, 8482)], .int .i64 14)]
def Gx.k_class3 : List (List (Int × Int) × Value) := [([(65279, 65279), (65520, 65531), (78896, 78911), (113824, 113827), (119155, 119162), (917504, 917535), (917632, 917759), (918000, 921599)], .int .i64 3), ([(12330, 12335), (12441, 12442), (42607, 42610), (42612, 42621), (42654, 42655), (42736, 42737), (64286, 64286), (65024, 65039), (65056, 65071), (65438, 65439), (66045, 66045), (119141, 119141), (119143, 119145), (119150, 119154), (119163, 119170), (119173, 119179), (119210, 119213), (127995, 127999), (917536, 917631), (917760, 917999)], .int .i64 4), ([(127462, 127487)], .int .i64 6), ([(69821, 69821), (69837, 69837), (70082, 70083)], .int .i64 7), ([(43360, 43388)], .int .i64 9), ([(55216, 55238)], .int .i64 10), ([(55243, 55291)], .int .i64 11), ([(8505, 8505), (8596, 8601), (8617, 8618), (8986, 8987), (9000, 9000), (9096, 9096), (9167, 9167), (9193, 9203), (9208, 9210), (9410, 9410), (9642, 9643), (9654, 9654), (9664, 9664), (9723, 9726), (9728, 9733), (9735, 9746), (9748, 9861), (9872, 9989), (9992, 10002), (10004, 10004), (10006, 10006), (10013, 10013), (10017, 10017), (10024, 10024), (10035, 10036), (10052, 10052), (10055, 10055), (10060, 10060), (10062, 10062), (10067, 10069), (10071, 10071), (10083, 10087), (10133, 10135), (10145, 10145), (10160, 10160), (10175, 10175), (10548, 10549), (11013, 11015), (11035, 11036), (11088, 11088), (11093, 11093), (12336, 12336), (12349, 12349), (12951, 12951), (12953, 12953), (126976, 127231), (127245, 127247), (127279, 127279), (127340, 127345), (127358, 127359), (127374, 127374), (127377, 127386), (127405, 127461), (127489, 127503), (127514, 127514), (127535, 127535), (127538, 127546), (127548, 127551), (127561, 127994), (128000, 128317), (128326, 128591), (128640, 128767), (128884, 128895), (128981, 129023), (129036, 129039), (129096, 129103), (129114, 129119), (129160, 129167), (129198, 129279), (129292, 129338), (129340, 129349), (129351, 129791), (130048, 131069)], .int .i64 14)]
def Gx.k_consonant : List (List (Int × Int) × Value) := [([(2325, 2361), (2392, 2399), (2424, 2431), (2453, 2472), (2474, 2480), (2482, 2482), (2486, 2489), (2524, 2525), (2527, 2527), (2544, 2545), (2709, 2728), (2730, 2736), (2738, 2739), (2741, 2745), (2809, 2809), (2837, 2856), (2858, 2864), (2866, 2867), (2869, 2873), (2908, 2909), (2911, 2911), (2929, 2929), (3093, 3112), (3114, 3129), (3160, 3162), (3349, 3386)], .bool true)]
def Gx.k_blank : List (List (Int × Int) × Value) := [([(9, 13), (32, 32), (133, 133), (160, 160), (5760, 5760), (8192, 8202), (8232, 8233), (8239, 8239), (8287, 8287), (12288, 12288)], .bool true)]
def Gx.k_letter : List (List (Int × Int) × Value) := [([(48, 57), (65, 90), (95, 95), (97, 122), (170, 170), (181, 181), (186, 186), (192, 214), (216, 246), (248, 705), (768, 884), (886, 893), (895, 895), (902, 902), (904, 1013), (1015, 1153), (1155, 1327), (1329, 1366), (1376, 1416), (1425, 1469), (1488, 1514), (1552, 1562), (1568, 1641), (1646, 1747), (1749, 1756), (1759, 1768), (1770, 1788), (1808, 1866), (2304, 2403), (2406, 2415), (2417, 3571), (3585, 3642), (3648, 3662), (3664, 3673), (3713, 3807), (3864, 3897), (3904, 3972), (3984, 4028), (4096, 4169), (4176, 4253), (4256, 4346), (4348, 4607), (4608, 4959), (6016, 6099), (7680, 8188), (8486, 8486), (8490, 8491), (8544, 8584), (12293, 12295), (12321, 12335), (12353, 12438), (12441, 12442), (12445, 12447), (12449, 12538), (12540, 12543), (12549, 12591), (12593, 12686), (13312, 19903), (19968, 40959), (43360, 43388), (44032, 55203), (55216, 55291), (63744, 64255), (64285, 64335), (65296, 65305), (65313, 65338), (65345, 65370), (65382, 65500), (66560, 66639), (131072, 195103), (196608, 205743)], .bool true)]
def Gx.k_wide : List (List (Int × Int) × Value) := [([(4352, 4447), (8986, 8987), (9193, 9196), (11904, 12350), (12353, 13311), (13312, 19903), (19968, 40959), (43360, 43388), (44032, 55203), (63744, 64255), (65072, 65135), (65281, 65376), (65504, 65510), (127744, 128591), (128640, 128767), (129280, 129535), (129648, 129791), (131072, 262141)], .bool true)]
def Gx.k_distance : List (List (Int × Int) × Value) := [([(65, 90)], .int .i64 32), ([(192, 214)], .int .i64 32), ([(216, 222)], .int .i64 32), ([(376, 376)], .int .i64 (-121)), ([(902, 902)], .int .i64 38), ([(904, 906)], .int .i64 37), ([(908, 908)], .int .i64 64), ([(910, 911)], .int .i64 63), ([(913, 929)], .int .i64 32), ([(931, 939)], .int .i64 32), ([(975, 975)], .int .i64 8), ([(1024, 1039)], .int .i64 80), ([(1040, 1071)], .int .i64 32), ([(1216, 1216)], .int .i64 15), ([(1329, 1366)], .int .i64 48), ([(8544, 8559)], .int .i64 16), ([(9398, 9423)], .int .i64 26), ([(65313, 65338)], .int .i64 32), ([(66560, 66599)], .int .i64 40)]
def Gx.k_distanceBack : List (List (Int × Int) × Value) := [([(97, 122)], .int .i64 32), ([(224, 246)], .int .i64 32), ([(248, 254)], .int .i64 32), ([(255, 255)], .int .i64 (-121)), ([(940, 940)], .int .i64 38), ([(941, 943)], .int .i64 37), ([(972, 972)], .int .i64 64), ([(973, 974)], .int .i64 63), ([(945, 961)], .int .i64 32), ([(963, 971)], .int .i64 32), ([(983, 983)], .int .i64 8), ([(1104, 1119)], .int .i64 80), ([(1072, 1103)], .int .i64 32), ([(1231, 1231)], .int .i64 15), ([(1377, 1414)], .int .i64 48), ([(8560, 8575)], .int .i64 16), ([(9424, 9449)], .int .i64 26), ([(65345, 65370)], .int .i64 32), ([(66600, 66639)], .int .i64 40)]
def Gx.k_pair : List (List (Int × Int) × Value) := [([(256, 303)], .int .i64 256), ([(306, 311)], .int .i64 306), ([(313, 328)], .int .i64 313), ([(330, 375)], .int .i64 330), ([(377, 382)], .int .i64 377), ([(461, 476)], .int .i64 461), ([(478, 495)], .int .i64 478), ([(504, 543)], .int .i64 504), ([(546, 563)], .int .i64 546), ([(582, 591)], .int .i64 582), ([(880, 883)], .int .i64 880), ([(886, 887)], .int .i64 886), ([(984, 1007)], .int .i64 984), ([(1120, 1153)], .int .i64 1120), ([(1162, 1215)], .int .i64 1162), ([(1217, 1230)], .int .i64 1217), ([(1232, 1327)], .int .i64 1232), ([(7680, 7829)], .int .i64 7680), ([(7840, 7935)], .int .i64 7840)]

set_option maxRecDepth 100000 in
set_option maxHeartbeats 4000000 in
theorem r_class1 (a : Int) (w : World) : Calls Tryd.prog 41 #[.int .i64 a] w fun e w' => e = .returned ((Sw.pick Gx.k_class1 a).getD (.int .i64 0)) ∧ w' = w := by
  refine calls_of_wp Tryd.func41 rfl ?_
  refine Sw.body (N := Tryd.f41.ntmps) (x := a) (cs := Gx.k_class1) (by rw [Tryd.ntmps41]; decide) ?_ ⟨by rw [Tryd.ntmps41]; simp, by simp [Act.eval], rfl⟩ ?_
  · rw [Tryd.ntmps41]
    unfold Gx.k_class1
    repeat' first | exact Sw.cs_nil | refine Sw.cs_cons (by decide) ?_ ?_ | refine Sw.ch_cons ?_ ?_ | exact Sw.ch_eq (by decide) (by decide) (by decide) (by decide) | exact Sw.ch_rg (by decide) (by decide) (by decide) (by decide)
  · intro b' hd he
    refine bodyPost_ret (results_tmp rfl _ _ _) hd ⟨?_, rfl⟩
    rw [← he]
    rfl

set_option maxRecDepth 100000 in
set_option maxHeartbeats 4000000 in
theorem r_class2 (a : Int) (w : World) : Calls Tryd.prog 42 #[.int .i64 a] w fun e w' => e = .returned ((Sw.pick Gx.k_class2 a).getD (.int .i64 0)) ∧ w' = w := by
  refine calls_of_wp Tryd.func42 rfl ?_
  refine Sw.body (N := Tryd.f42.ntmps) (x := a) (cs := Gx.k_class2) (by rw [Tryd.ntmps42]; decide) ?_ ⟨by rw [Tryd.ntmps42]; simp, by simp [Act.eval], rfl⟩ ?_
  · rw [Tryd.ntmps42]
    unfold Gx.k_class2
    repeat' first | exact Sw.cs_nil | refine Sw.cs_cons (by decide) ?_ ?_ | refine Sw.ch_cons ?_ ?_ | exact Sw.ch_eq (by decide) (by decide) (by decide) (by decide) | exact Sw.ch_rg (by decide) (by decide) (by decide) (by decide)
  · intro b' hd he
    refine bodyPost_ret (results_tmp rfl _ _ _) hd ⟨?_, rfl⟩
    rw [← he]
    rfl

set_option maxRecDepth 100000 in
set_option maxHeartbeats 4000000 in
theorem r_class3 (a : Int) (w : World) : Calls Tryd.prog 43 #[.int .i64 a] w fun e w' => e = .returned ((Sw.pick Gx.k_class3 a).getD (.int .i64 0)) ∧ w' = w := by
  refine calls_of_wp Tryd.func43 rfl ?_
  refine Sw.body (N := Tryd.f43.ntmps) (x := a) (cs := Gx.k_class3) (by rw [Tryd.ntmps43]; decide) ?_ ⟨by rw [Tryd.ntmps43]; simp, by simp [Act.eval], rfl⟩ ?_
  · rw [Tryd.ntmps43]
    unfold Gx.k_class3
    repeat' first | exact Sw.cs_nil | refine Sw.cs_cons (by decide) ?_ ?_ | refine Sw.ch_cons ?_ ?_ | exact Sw.ch_eq (by decide) (by decide) (by decide) (by decide) | exact Sw.ch_rg (by decide) (by decide) (by decide) (by decide)
  · intro b' hd he
    refine bodyPost_ret (results_tmp rfl _ _ _) hd ⟨?_, rfl⟩
    rw [← he]
    rfl

set_option maxRecDepth 100000 in
set_option maxHeartbeats 4000000 in
theorem r_consonant (a : Int) (w : World) : Calls Tryd.prog 44 #[.int .i64 a] w fun e w' => e = .returned ((Sw.pick Gx.k_consonant a).getD (.bool false)) ∧ w' = w := by
  refine calls_of_wp Tryd.func44 rfl ?_
  refine Sw.body (N := Tryd.f44.ntmps) (x := a) (cs := Gx.k_consonant) (by rw [Tryd.ntmps44]; decide) ?_ ⟨by rw [Tryd.ntmps44]; simp, by simp [Act.eval], rfl⟩ ?_
  · rw [Tryd.ntmps44]
    unfold Gx.k_consonant
    repeat' first | exact Sw.cs_nil | refine Sw.cs_cons (by decide) ?_ ?_ | refine Sw.ch_cons ?_ ?_ | exact Sw.ch_eq (by decide) (by decide) (by decide) (by decide) | exact Sw.ch_rg (by decide) (by decide) (by decide) (by decide)
  · intro b' hd he
    refine bodyPost_ret (results_tmp rfl _ _ _) hd ⟨?_, rfl⟩
    rw [← he]
    rfl

set_option maxRecDepth 100000 in
set_option maxHeartbeats 4000000 in
theorem r_blank (a : Int) (w : World) : Calls Tryd.prog 45 #[.int .i64 a] w fun e w' => e = .returned ((Sw.pick Gx.k_blank a).getD (.bool false)) ∧ w' = w := by
  refine calls_of_wp Tryd.func45 rfl ?_
  refine Sw.body (N := Tryd.f45.ntmps) (x := a) (cs := Gx.k_blank) (by rw [Tryd.ntmps45]; decide) ?_ ⟨by rw [Tryd.ntmps45]; simp, by simp [Act.eval], rfl⟩ ?_
  · rw [Tryd.ntmps45]
    unfold Gx.k_blank
    repeat' first | exact Sw.cs_nil | refine Sw.cs_cons (by decide) ?_ ?_ | refine Sw.ch_cons ?_ ?_ | exact Sw.ch_eq (by decide) (by decide) (by decide) (by decide) | exact Sw.ch_rg (by decide) (by decide) (by decide) (by decide)
  · intro b' hd he
    refine bodyPost_ret (results_tmp rfl _ _ _) hd ⟨?_, rfl⟩
    rw [← he]
    rfl

set_option maxRecDepth 100000 in
set_option maxHeartbeats 4000000 in
theorem r_letter (a : Int) (w : World) : Calls Tryd.prog 46 #[.int .i64 a] w fun e w' => e = .returned ((Sw.pick Gx.k_letter a).getD (.bool false)) ∧ w' = w := by
  refine calls_of_wp Tryd.func46 rfl ?_
  refine Sw.body (N := Tryd.f46.ntmps) (x := a) (cs := Gx.k_letter) (by rw [Tryd.ntmps46]; decide) ?_ ⟨by rw [Tryd.ntmps46]; simp, by simp [Act.eval], rfl⟩ ?_
  · rw [Tryd.ntmps46]
    unfold Gx.k_letter
    repeat' first | exact Sw.cs_nil | refine Sw.cs_cons (by decide) ?_ ?_ | refine Sw.ch_cons ?_ ?_ | exact Sw.ch_eq (by decide) (by decide) (by decide) (by decide) | exact Sw.ch_rg (by decide) (by decide) (by decide) (by decide)
  · intro b' hd he
    refine bodyPost_ret (results_tmp rfl _ _ _) hd ⟨?_, rfl⟩
    rw [← he]
    rfl

set_option maxRecDepth 100000 in
set_option maxHeartbeats 4000000 in
theorem r_wide (a : Int) (w : World) : Calls Tryd.prog 52 #[.int .i64 a] w fun e w' => e = .returned ((Sw.pick Gx.k_wide a).getD (.bool false)) ∧ w' = w := by
  refine calls_of_wp Tryd.func52 rfl ?_
  refine Sw.body (N := Tryd.f52.ntmps) (x := a) (cs := Gx.k_wide) (by rw [Tryd.ntmps52]; decide) ?_ ⟨by rw [Tryd.ntmps52]; simp, by simp [Act.eval], rfl⟩ ?_
  · rw [Tryd.ntmps52]
    unfold Gx.k_wide
    repeat' first | exact Sw.cs_nil | refine Sw.cs_cons (by decide) ?_ ?_ | refine Sw.ch_cons ?_ ?_ | exact Sw.ch_eq (by decide) (by decide) (by decide) (by decide) | exact Sw.ch_rg (by decide) (by decide) (by decide) (by decide)
  · intro b' hd he
    refine bodyPost_ret (results_tmp rfl _ _ _) hd ⟨?_, rfl⟩
    rw [← he]
    rfl

set_option maxRecDepth 100000 in
set_option maxHeartbeats 4000000 in
theorem r_distance (a : Int) (w : World) : Calls Tryd.prog 49 #[.int .i64 a] w fun e w' => e = .returned ((Sw.pick Gx.k_distance a).getD (.int .i64 0)) ∧ w' = w := by
  refine calls_of_wp Tryd.func49 rfl ?_
  refine Sw.body (N := Tryd.f49.ntmps) (x := a) (cs := Gx.k_distance) (by rw [Tryd.ntmps49]; decide) ?_ ⟨by rw [Tryd.ntmps49]; simp, by simp [Act.eval], rfl⟩ ?_
  · rw [Tryd.ntmps49]
    unfold Gx.k_distance
    repeat' first | exact Sw.cs_nil | refine Sw.cs_cons (by decide) ?_ ?_ | refine Sw.ch_cons ?_ ?_ | exact Sw.ch_eq (by decide) (by decide) (by decide) (by decide) | exact Sw.ch_rg (by decide) (by decide) (by decide) (by decide)
  · intro b' hd he
    refine bodyPost_ret (results_tmp rfl _ _ _) hd ⟨?_, rfl⟩
    rw [← he]
    rfl

set_option maxRecDepth 100000 in
set_option maxHeartbeats 4000000 in
theorem r_distanceBack (a : Int) (w : World) : Calls Tryd.prog 47 #[.int .i64 a] w fun e w' => e = .returned ((Sw.pick Gx.k_distanceBack a).getD (.int .i64 0)) ∧ w' = w := by
  refine calls_of_wp Tryd.func47 rfl ?_
  refine Sw.body (N := Tryd.f47.ntmps) (x := a) (cs := Gx.k_distanceBack) (by rw [Tryd.ntmps47]; decide) ?_ ⟨by rw [Tryd.ntmps47]; simp, by simp [Act.eval], rfl⟩ ?_
  · rw [Tryd.ntmps47]
    unfold Gx.k_distanceBack
    repeat' first | exact Sw.cs_nil | refine Sw.cs_cons (by decide) ?_ ?_ | refine Sw.ch_cons ?_ ?_ | exact Sw.ch_eq (by decide) (by decide) (by decide) (by decide) | exact Sw.ch_rg (by decide) (by decide) (by decide) (by decide)
  · intro b' hd he
    refine bodyPost_ret (results_tmp rfl _ _ _) hd ⟨?_, rfl⟩
    rw [← he]
    rfl

set_option maxRecDepth 100000 in
set_option maxHeartbeats 4000000 in
theorem r_pair (a : Int) (w : World) : Calls Tryd.prog 48 #[.int .i64 a] w fun e w' => e = .returned ((Sw.pick Gx.k_pair a).getD (.int .i64 (-1))) ∧ w' = w := by
  refine calls_of_wp Tryd.func48 rfl ?_
  refine Sw.body (N := Tryd.f48.ntmps) (x := a) (cs := Gx.k_pair) (by rw [Tryd.ntmps48]; decide) ?_ ⟨by rw [Tryd.ntmps48]; simp, by simp [Act.eval], rfl⟩ ?_
  · rw [Tryd.ntmps48]
    unfold Gx.k_pair
    repeat' first | exact Sw.cs_nil | refine Sw.cs_cons (by decide) ?_ ?_ | refine Sw.ch_cons ?_ ?_ | exact Sw.ch_eq (by decide) (by decide) (by decide) (by decide) | exact Sw.ch_rg (by decide) (by decide) (by decide) (by decide)
  · intro b' hd he
    refine bodyPost_ret (results_tmp rfl _ _ _) hd ⟨?_, rfl⟩
    rw [← he]
    rfl
end Go.Proofs.YtlignhpbmbdoeaaDoor
