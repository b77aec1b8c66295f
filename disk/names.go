package disk

import (
	"cmp"
	"maps"
	"slices"

	"turnstile/api"
)

// change is one of names: the file that had the name from has the name to instead. Where there is no name it is empty: from of a new file, to of one that is removed.
type change struct {
	from string
	to   string
	file *file
}

func (c change) apply(names map[string]*file) {
	delete(names, c.from)
	if c.to != "" {
		names[c.to] = c.file
	}
}

// alter makes a change, which waits from now on.
func (d *Disk) alter(c change) {
	c.apply(d.seen)
	d.changes = append(d.changes, c)
}

func (d *Disk) syncNames() {
	for _, c := range d.changes {
		c.apply(d.safe)
	}
	d.changes = nil
}

// namesLeft answers the names behind a loss of power that leaves so many of the waiting changes made.
func (d *Disk) namesLeft(made int) map[string]*file {
	names := maps.Clone(d.safe)
	made = max(0, min(made, len(d.changes)))
	for _, c := range d.changes[:made] {
		c.apply(names)
	}
	return names
}

// byAge answers the names in the order in which their files were created.
func byAge(names map[string]*file) []string {
	var list []string
	for name := range names {
		list = append(list, name)
	}
	slices.SortFunc(list, func(a, b string) int { return cmp.Compare(names[a].age, names[b].age) })
	return list
}

func isName(name string) bool {
	return name != "" && len(name) <= api.MaxName
}

// missing answers ErrGone if there is no such name as seen.
func (d *Disk) missing(name string) error {
	if d.seen[name] == nil {
		return api.ErrGone
	}
	return nil
}
