/- Plain functions of chapter 1: what the document says of one atom. No Go in sight. -/
namespace Go.Proofs.Ytmfbobibpebfnaa.Cx

def isSc (a : Int) : Bool := (decide (0 ≤ a) && decide (a < 55296)) || (decide (57343 < a) && decide (a ≤ 1114111))

def fits (enc a : Int) : Bool :=
  if enc = 1 then isSc a || (decide (a ≤ -129) && decide (-256 ≤ a))
  else if enc = 2 ∨ enc = 3 then decide (-256 ≤ a) && decide (a ≤ 1114111)
  else if enc = 4 then decide (0 ≤ a) && decide (a ≤ 255)
  else false

def put8 (a : Int) : List Int :=
  if a < 128 then [a] else if a < 2048 then [192 + a / 64, 128 + a % 64]
  else if a < 65536 then [224 + a / 4096, 128 + a / 64 % 64, 128 + a % 64]
  else [240 + a / 262144, 128 + a / 4096 % 64, 128 + a / 64 % 64, 128 + a % 64]

def unit (enc u : Int) : List Int := if enc = 2 then [u % 256, u / 256] else [u / 256, u % 256]

def put (enc a : Int) : List Int :=
  if a < 0 then [-1 - a] else if enc = 1 then put8 a else if enc = 4 then [a]
  else if 65536 ≤ a then unit enc (55296 + (a - 65536) / 1024) ++ unit enc (56320 + a % 1024)
  else unit enc a

def size (enc a : Int) : Int := if fits enc a = true then (put enc a).length else 0

def nsize (a : Int) : Int :=
  if a < -256 then 0 else if a ≤ -129 then 1 else if a < 0 then 0 else if a < 128 then 1 else if a < 2048 then 2
  else if a < 55296 then 3 else if a ≤ 57343 then 0 else if a < 65536 then 3 else if a ≤ 1114111 then 4 else 0
def wsize (a : Int) : Int :=
  if a < -256 then 0 else if a < 0 then 1 else if a < 65536 then 2 else if a ≤ 1114111 then 4 else 0
def lsize (a : Int) : Int := if a < 0 then 0 else if a ≤ 255 then 1 else 0

theorem size1 (a : Int) : size 1 a = nsize a := by
  unfold size nsize fits isSc put put8
  simp
  repeat' split
  all_goals first | omega | (simp; omega) | simp
theorem sizeW (enc a : Int) (h : enc = 2 ∨ enc = 3) : size enc a = wsize a := by
  rcases h with rfl | rfl
  all_goals
    unfold size wsize fits put unit
    simp
    repeat' split
    all_goals first | omega | (simp; omega) | simp
theorem size4 (a : Int) : size 4 a = lsize a := by
  unfold size lsize fits put
  simp
  repeat' split
  all_goals first | omega | (simp; omega) | simp
end Go.Proofs.Ytmfbobibpebfnaa.Cx
