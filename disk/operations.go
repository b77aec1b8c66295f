package disk

import (
	"cmp"
	"errors"

	"turnstile/api"
)

// arms is what is armed: how many operations there were ahead of it, the failing ones with their parts by their numbers behind that, and in which one the power goes.
type arms struct {
	ahead int
	parts map[int]int
	cut   int
}

func partsOf(fails []api.Fail) map[int]int {
	parts := map[int]int{}
	for _, f := range fails {
		if _, there := parts[f.At]; !there {
			parts[f.At] = f.Part
		}
	}
	return parts
}

// operation is what one of the seven calls would do.
type operation struct {
	refusal func() error
	do      func()
	partly  func(part int) // what is done of it if it fails; nil: nothing
	waits   bool           // what it does isn't safe by itself: it is done as well if the power goes in it
}

// Create: a new empty file; ErrArg, ErrThere.
func (d *Disk) Create(name string) error {
	return d.operate(operation{
		refusal: func() error {
			switch {
			case !isName(name):
				return api.ErrArg
			case d.seen[name] != nil:
				return api.ErrThere
			}
			return nil
		},
		do:    func() { d.alter(change{to: name, file: d.newFile(content{})}) },
		waits: true,
	})
}

// Append: data behind a file's bytes; ErrGone.
func (d *Disk) Append(name string, data []byte) error {
	return d.operate(operation{
		refusal: func() error { return d.missing(name) },
		do:      func() { d.seen[name].add(data) },
		partly:  func(part int) { d.seen[name].add(data[:max(0, min(part, len(data)))]) },
		waits:   true,
	})
}

// Sync: makes a file's bytes safe; ErrGone.
func (d *Disk) Sync(name string) error {
	return d.operate(operation{
		refusal: func() error { return d.missing(name) },
		do:      func() { d.seen[name].sync() },
	})
}

// Truncate: cuts a file to its first n bytes, safely; ErrGone, ErrArg.
func (d *Disk) Truncate(name string, n int) error {
	return d.operate(operation{
		refusal: func() error {
			if err := d.missing(name); err != nil {
				return err
			}
			if n < 0 || n > len(d.seen[name].seen.data) || n%api.Sector != 0 {
				return api.ErrArg
			}
			return nil
		},
		do: func() { d.seen[name].cut(n) },
	})
}

// Rename: a file gets another name, in the place of the file that had it; ErrArg, ErrGone.
func (d *Disk) Rename(from string, to string) error {
	return d.operate(operation{
		refusal: func() error {
			if !isName(to) {
				return api.ErrArg
			}
			return d.missing(from)
		},
		do: func() {
			if from != to {
				d.alter(change{from: from, to: to, file: d.seen[from]})
			}
		},
		waits: true,
	})
}

// Remove: a file is gone; ErrGone.
func (d *Disk) Remove(name string) error {
	return d.operate(operation{
		refusal: func() error { return d.missing(name) },
		do:      func() { d.alter(change{from: name}) },
		waits:   true,
	})
}

// SyncNames: makes all changes of names safe.
func (d *Disk) SyncNames() error {
	return d.operate(operation{
		refusal: func() error { return nil },
		do:      func() { d.syncNames() },
	})
}

// operate takes an operation through its steps.
func (d *Disk) operate(o operation) error {
	if err := d.ready(); err != nil {
		return err
	}
	part, failure := d.count()
	if refusal := o.refusal(); refusal != nil {
		return cmp.Or(failure, refusal)
	}
	switch {
	case errors.Is(failure, api.ErrDown):
		if o.waits {
			o.do()
		}
	case errors.Is(failure, api.ErrIo):
		if o.partly != nil {
			o.partly(part)
		}
	default:
		o.do()
	}
	return failure
}

// count counts an operation and answers what befalls it: the power goes in it (ErrDown), or it fails (ErrIo) behind a part of it, or nothing.
func (d *Disk) count() (int, error) {
	d.ops++
	number := d.ops - d.armed.ahead
	if number == d.armed.cut {
		d.down = true
		return 0, api.ErrDown
	}
	if part, fails := d.armed.parts[number]; fails {
		return part, api.ErrIo
	}
	return 0, nil
}
