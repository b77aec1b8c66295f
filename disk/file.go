package disk

import (
	"slices"

	"turnstile/api"
)

// content is a row of bytes, with zeros in the sectors that can't be read, and the numbers of these, rising.
type content struct {
	data []byte
	bad  []int
}

// sectors is how many sectors so many bytes have.
func sectors(size int) int {
	return (size + api.Sector - 1) / api.Sector
}

func contentOf(f api.File) content {
	c := content{f.Data, f.Bad}.clone()
	for _, i := range c.bad {
		clear(c.sector(i))
	}
	return c
}

func (c content) clone() content {
	return content{slices.Clone(c.data), slices.Clone(c.bad)}
}

func (c content) under(name string) api.File {
	return api.File{Name: name, Data: c.data, Bad: c.bad}
}

func (c content) sector(i int) []byte {
	start := i * api.Sector
	return c.data[start:min(start+api.Sector, len(c.data))]
}

// put lays data over the bytes from start on, behind zeros if there are fewer. The sectors that get a byte can be read.
func (c *content) put(start int, data []byte) {
	if len(data) == 0 {
		return
	}
	end := start + len(data)
	c.data = append(c.data, make([]byte, max(0, end-len(c.data)))...)
	copy(c.data[start:], data)
	from, _ := slices.BinarySearch(c.bad, start/api.Sector)
	to, _ := slices.BinarySearch(c.bad, sectors(end))
	c.bad = slices.Delete(c.bad, from, to)
}

// spoil makes sector i, with so many bytes, one that can't be read.
func (c *content) spoil(i int, size int) {
	c.put(i*api.Sector, make([]byte, size))
	at, _ := slices.BinarySearch(c.bad, i)
	c.bad = slices.Insert(c.bad, at, i)
}

// cut leaves the first n bytes, which are whole sectors, or fewer if there are fewer.
func (c *content) cut(n int) {
	c.data = c.data[:min(n, len(c.data))]
	at, _ := slices.BinarySearch(c.bad, n/api.Sector)
	c.bad = c.bad[:at]
}

// file is a thing of its own: names only lead to it.
type file struct {
	age   int // its place in the order in which the files were created
	seen  content
	safe  content
	waits int // the first sector that waits; all behind it do too, since bytes are only put at the end
}

func (f *file) waiting() int {
	return sectors(len(f.seen.data)) - f.waits
}

func (f *file) add(data []byte) {
	if len(data) == 0 {
		return
	}
	end := len(f.seen.data)
	f.seen.put(end, data)
	f.waits = min(f.waits, end/api.Sector)
}

// sync goes by the sectors that wait alone, since seen and safe are one in the others: a log syncs often.
func (f *file) sync() {
	start := min(f.waits*api.Sector, len(f.seen.data))
	f.safe.put(start, f.seen.data[start:])
	f.waits = sectors(len(f.seen.data))
}

func (f *file) cut(n int) {
	f.seen.cut(n)
	f.safe.cut(n)
	f.waits = min(f.waits, n/api.Sector)
}

// left is what a loss of power leaves if the first waiting sectors have these fates, and the others are lost.
func (f *file) left(fates []int) content {
	c := f.safe.clone()
	for k, fate := range fates {
		i := f.waits + k
		written := f.seen.sector(i)
		switch fate {
		case api.Lost:
		case api.Kept:
			c.put(i*api.Sector, written)
		default:
			c.spoil(i, len(written))
		}
	}
	return c
}
