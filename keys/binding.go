package keys

import "copyist/api"

// binding is what a row of keys is bound to.
type binding struct {
	verb, move, arg int
	then            follower
}

// follower is what must follow a row.
type follower int

const (
	nothing  follower = iota
	argument          // one key, whatever it is
	target            // what an operator works on
)

// row is keys and what they are bound to.
type row struct {
	binding
	keys []int
}

// moves is a row of a motion or an object.
func moves(move int, keys ...int) row { return row{binding{verb: api.VMove, move: move}, keys} }

// does is a row of a command that has no motion.
func does(verb int, keys ...int) row { return row{binding{verb: verb}, keys} }

// takes is a row of a command that brings its motion along.
func takes(verb, move int, keys ...int) row { return row{binding{verb: verb, move: move}, keys} }

// with is the row with an argument that its own keys tell.
func (r row) with(arg int) row {
	r.arg = arg
	return r
}

// before is the row with something that must follow it.
func (r row) before(then follower) row {
	r.then = then
	return r
}

// behind tells what a binding is behind an operator; false, if it is another operator's own.
func (b binding) behind(operator int) (binding, bool) {
	switch b.verb {
	case api.VMove:
		b.verb = operator
		return b, true
	case operator:
		return b, true
	}
	return binding{}, false
}

// command is what a binding says with a register, a count and the key that followed, if one had to.
func (b binding) command(reg, count, key int) api.Cmd {
	c := api.Cmd{Reg: reg, Count: count, Verb: b.verb, Move: b.move, Arg: b.arg}
	if b.then == argument {
		c.Arg = key
	}
	if b.move == api.MMatch && count > 0 {
		c.Move = api.MPercent
	}
	return c
}
