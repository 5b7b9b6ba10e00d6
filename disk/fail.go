package disk

import "copyist/api"

// Fail is the error of a call: which one, on which name, at which step, and what it was (an api.Errno).
type Fail struct {
	Op   string
	Name string
	Step int
	Err  error
}

// Error tells the error in words.
func (f *Fail) Error() string {
	words := f.Op + " " + f.Name + ": "
	if f.Err == nil { // never so in a Fail that a disk answers
		return words
	}
	return words + f.Err.Error()
}

// Unwrap tells what it was.
func (f *Fail) Unwrap() error { return f.Err }

// failed is what a call answers: an error that is nobody else's; nil, where all is well.
func failed(op, name string, step int, err api.Errno) error {
	if err == api.OK {
		return nil
	}
	return &Fail{Op: op, Name: name, Step: step, Err: err}
}
