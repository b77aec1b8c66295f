package disk_test

import (
	"bytes"
	"fmt"
	"maps"
	"slices"
	"sort"
	"strings"
	"testing"

	"turnstile/api"
	"turnstile/disk"
)

// call is one of a disk's calls that change it.
type call struct {
	op    string
	name  string
	to    string
	data  []byte
	n     int
	fails []api.Fail
	cut   int
}

func create(name string) call     { return call{op: "Create", name: name} }
func sync(name string) call       { return call{op: "Sync", name: name} }
func rename(from, to string) call { return call{op: "Rename", name: from, to: to} }
func remove(name string) call     { return call{op: "Remove", name: name} }
func syncNames() call             { return call{op: "SyncNames"} }
func truncate(name string, n int) call {
	return call{op: "Truncate", name: name, n: n}
}
func add(name string, data []byte) call { return call{op: "Append", name: name, data: data} }
func arm(cut int, fails ...api.Fail) call {
	return call{op: "Arm", cut: cut, fails: fails}
}

func (c call) String() string {
	switch c.op {
	case "Append":
		return fmt.Sprintf("Append(%q, %d bytes)", c.name, len(c.data))
	case "Truncate":
		return fmt.Sprintf("Truncate(%q, %d)", c.name, c.n)
	case "Rename":
		return fmt.Sprintf("Rename(%q, %q)", c.name, c.to)
	case "Arm":
		return fmt.Sprintf("Arm(%v, %d)", c.fails, c.cut)
	case "SyncNames":
		return "SyncNames()"
	}
	return fmt.Sprintf("%s(%q)", c.op, c.name)
}

func (c call) on(d *disk.Disk) error {
	switch c.op {
	case "Create":
		return d.Create(c.name)
	case "Append":
		return d.Append(c.name, c.data)
	case "Sync":
		return d.Sync(c.name)
	case "Truncate":
		return d.Truncate(c.name, c.n)
	case "Rename":
		return d.Rename(c.name, c.to)
	case "Remove":
		return d.Remove(c.name)
	case "SyncNames":
		return d.SyncNames()
	}
	d.Arm(c.fails, c.cut)
	return nil
}

// plainFile is a file as the chapter tells it: two rows of bytes, which sectors of each can't be read, which sectors wait.
type plainFile struct {
	number  int
	seen    []byte
	safe    []byte
	seenBad map[int]bool
	safeBad map[int]bool
	waits   map[int]bool
}

func newPlainFile(number int) *plainFile {
	return &plainFile{number: number, seenBad: map[int]bool{}, safeBad: map[int]bool{}, waits: map[int]bool{}}
}

type plainNames map[string]*plainFile

// plain is a disk reckoned by the chapter's words, each byte and each sector by itself.
type plain struct {
	seen    plainNames
	safe    plainNames
	changes []func(plainNames)
	files   int
	ops     int
	since   int
	down    bool
	fails   []api.Fail
	cut     int
}

func newPlain() *plain { return &plain{seen: plainNames{}, safe: plainNames{}} }

func plainOf(img api.Image) *plain {
	p := newPlain()
	for _, f := range img.Files {
		file := newPlainFile(p.files)
		p.files++
		for at, b := range f.Data {
			if slices.Contains(f.Bad, at/512) {
				b = 0
			}
			file.seen, file.safe = append(file.seen, b), append(file.safe, b)
		}
		for _, i := range f.Bad {
			file.seenBad[i], file.safeBad[i] = true, true
		}
		p.seen[f.Name], p.safe[f.Name] = file, file
	}
	return p
}

func (p *plain) change(do func(plainNames)) {
	do(p.seen)
	p.changes = append(p.changes, do)
}

// refusal is an operation's own error.
func (p *plain) refusal(c call) error {
	noName := func(name string) bool { return len(name) == 0 || len(name) > 64 }
	file := p.seen[c.name]
	switch {
	case c.op == "SyncNames":
		return nil
	case c.op == "Create" && noName(c.name), c.op == "Rename" && noName(c.to):
		return api.ErrArg
	case c.op == "Create" && file != nil:
		return api.ErrThere
	case c.op == "Create":
		return nil
	case file == nil:
		return api.ErrGone
	case c.op == "Truncate" && (c.n < 0 || c.n > len(file.seen) || c.n%512 != 0):
		return api.ErrArg
	}
	return nil
}

func (p *plain) do(c call) {
	file := p.seen[c.name]
	switch c.op {
	case "Create":
		made := newPlainFile(p.files)
		p.files++
		p.change(func(names plainNames) { names[c.name] = made })
	case "Append":
		file.add(c.data)
	case "Sync":
		file.safe, file.safeBad = slices.Clone(file.seen), maps.Clone(file.seenBad)
		file.waits = map[int]bool{}
	case "Truncate":
		file.truncate(c.n)
	case "Rename":
		if c.name != c.to {
			p.change(func(names plainNames) { names[c.to] = names[c.name]; delete(names, c.name) })
		}
	case "Remove":
		p.change(func(names plainNames) { delete(names, c.name) })
	case "SyncNames":
		p.safe, p.changes = maps.Clone(p.seen), nil
	}
}

func (f *plainFile) add(data []byte) {
	for _, b := range data {
		i := len(f.seen) / 512
		f.waits[i] = true
		delete(f.seenBad, i)
		f.seen = append(f.seen, b)
	}
}

func (f *plainFile) truncate(n int) {
	f.seen = slices.Clone(f.seen[:n])
	f.safe = slices.Clone(f.safe[:min(n, len(f.safe))])
	for _, numbers := range []map[int]bool{f.seenBad, f.safeBad, f.waits} {
		maps.DeleteFunc(numbers, func(i int, _ bool) bool { return i >= n/512 })
	}
}

// call takes the call through the chapter's steps.
func (p *plain) call(c call) error {
	if c.op == "Arm" {
		if !p.down {
			p.fails, p.cut, p.since = c.fails, c.cut, 0
		}
		return nil
	}
	if p.down {
		return api.ErrDown
	}
	p.ops++
	p.since++
	refusal := p.refusal(c)
	if p.since == p.cut {
		p.down = true
		if refusal == nil && slices.Contains([]string{"Append", "Create", "Rename", "Remove"}, c.op) {
			p.do(c)
		}
		return api.ErrDown
	}
	for _, f := range p.fails {
		if f.At == p.since {
			if refusal == nil && c.op == "Append" {
				c.data = c.data[:min(max(f.Part, 0), len(c.data))]
				p.do(c)
			}
			return api.ErrIo
		}
	}
	if refusal == nil {
		p.do(c)
	}
	return refusal
}

func (p *plain) seenImage() api.Image {
	var img api.Image
	if p.down {
		return img
	}
	for _, name := range sortedNames(p.seen) {
		img.Files = append(img.Files, p.seen[name].shown(name, p.seen[name].seen, p.seen[name].seenBad))
	}
	return img
}

func (f *plainFile) shown(name string, data []byte, bad map[int]bool) api.File {
	numbers := slices.Collect(maps.Keys(bad))
	sort.Ints(numbers)
	out := api.File{Name: name, Data: slices.Clone(data), Bad: numbers}
	for at := range out.Data {
		if bad[at/512] {
			out.Data[at] = 0
		}
	}
	return out
}

func sortedNames(names plainNames) []string {
	list := slices.Collect(maps.Keys(names))
	sort.Strings(list)
	return list
}

func (p *plain) crash(f api.Fates) api.Image {
	names := maps.Clone(p.safe)
	for i, change := range p.changes {
		if i < f.Names {
			change(names)
		}
	}
	fates := map[*plainFile]map[int]int{}
	k := 0
	for number := range p.files {
		for _, file := range names {
			if file.number != number {
				continue
			}
			fates[file] = map[int]int{}
			for i := range len(file.seen)/512 + 1 {
				if !file.waits[i] {
					continue
				}
				if k < len(f.Sectors) {
					fates[file][i] = f.Sectors[k]
				}
				k++
			}
		}
	}
	var img api.Image
	for _, name := range sortedNames(names) {
		img.Files = append(img.Files, names[name].left(name, fates[names[name]]))
	}
	return img
}

// left: the sectors that aren't in fates are as safe.
func (f *plainFile) left(name string, fates map[int]int) api.File {
	size := len(f.safe)
	for i, fate := range fates {
		if fate != api.Lost {
			size = max(size, min(512*(i+1), len(f.seen)))
		}
	}
	data, bad := make([]byte, size), map[int]bool{}
	for i := range (size + 511) / 512 {
		from, lasts := f.safe, f.safeBad[i]
		if fate := fates[i]; fate == api.Kept {
			from, lasts = f.seen, f.seenBad[i]
		} else if fate != api.Lost {
			lasts = true
		}
		if lasts {
			bad[i] = true
		}
		for at := 512 * i; at < min(512*(i+1), size, len(from)); at++ {
			data[at] = from[at]
		}
	}
	return f.shown(name, data, bad)
}

func (p *plain) waiting() (int, int) {
	count := 0
	for _, file := range p.seen {
		count += len(file.waits)
	}
	return count, len(p.changes)
}

func (p *plain) read(name string) ([]byte, []int, error) {
	if p.down {
		return nil, nil, api.ErrDown
	}
	if p.seen[name] == nil {
		return nil, nil, api.ErrGone
	}
	f := p.seen[name].shown(name, p.seen[name].seen, p.seen[name].seenBad)
	return f.Data, f.Bad, nil
}

func (p *plain) names() ([]string, error) {
	if p.down {
		return nil, api.ErrDown
	}
	return sortedNames(p.seen), nil
}

// tell writes an image in short: of each file the name, its bytes as so many times the same one, and its sectors that can't be read.
func tell(img api.Image) string {
	var parts []string
	for _, f := range img.Files {
		parts = append(parts, tellFile(f))
	}
	return strings.Join(parts, "; ")
}

func tellFile(f api.File) string {
	words := []string{f.Name}
	for at := 0; at < len(f.Data); {
		from := at
		for at < len(f.Data) && f.Data[at] == f.Data[from] {
			at++
		}
		words = append(words, fmt.Sprintf("%d*%d", at-from, f.Data[from]))
	}
	for _, i := range f.Bad {
		words = append(words, fmt.Sprintf("!%d", i))
	}
	return strings.Join(words, " ")
}

func same(a, b api.Image) bool {
	return slices.EqualFunc(a.Files, b.Files, func(x, y api.File) bool {
		return x.Name == y.Name && bytes.Equal(x.Data, y.Data) && slices.Equal(x.Bad, y.Bad)
	})
}

func copyOf(img api.Image) api.Image {
	var out api.Image
	for _, f := range img.Files {
		out.Files = append(out.Files, api.File{Name: f.Name, Data: slices.Clone(f.Data), Bad: slices.Clone(f.Bad)})
	}
	return out
}

func times(count int, b byte) []byte { return bytes.Repeat([]byte{b}, count) }

func fates(names int, sectors ...int) api.Fates { return api.Fates{Sectors: sectors, Names: names} }

// all is the fates by which everything that waits is kept.
func all(d *disk.Disk) api.Fates {
	sectors, names := d.Waiting()
	return api.Fates{Sectors: slices.Repeat([]int{api.Kept}, sectors), Names: names}
}

// someFates: each kind of fate on each of the first sectors, lists that are too short and too long, numbers that are no fate, and any count of names.
func someFates() []api.Fates {
	var list []api.Fates
	for names := -1; names <= 4; names++ {
		list = append(list, fates(names), fates(names, 1, 1, 1, 1, 1, 1), fates(names, 2, 2, 2, 2, 2, 2), fates(names, 0, 1, 2, 0, 1, 2),
			fates(names, 1, 0, 7, 1), fates(names, 2, 1, 0, 2, 1, 0, 2), fates(names, 0, -1, 1), fates(names, 1, 2))
	}
	return list
}

// expectSame holds every answer of the disk against the plain one's.
func expectSame(t *testing.T, promise string, calls []call, d *disk.Disk, p *plain, list []api.Fates) {
	t.Helper()
	if have, want := d.Seen(), p.seenImage(); !same(have, want) {
		t.Fatalf("%s: behind %v Seen is %s, want %s", promise, calls, tell(have), tell(want))
	}
	if have, want := d.Safe(), p.crash(api.Fates{}); !same(have, want) {
		t.Fatalf("%s: behind %v Safe is %s, want %s", promise, calls, tell(have), tell(want))
	}
	for _, f := range list {
		have, want := d.Crash(f), p.crash(f)
		if !same(have, want) {
			t.Fatalf("%s: behind %v Crash(%v) is %s, want %s", promise, calls, f, tell(have), tell(want))
		}
	}
	sectors, changes := d.Waiting()
	wantSectors, wantChanges := p.waiting()
	if sectors != wantSectors || changes != wantChanges {
		t.Fatalf("%s: behind %v Waiting is %d, %d, want %d, %d", promise, calls, sectors, changes, wantSectors, wantChanges)
	}
	if d.Ops() != p.ops || d.Down() != p.down {
		t.Fatalf("%s: behind %v Ops is %d, Down %v, want %d, %v", promise, calls, d.Ops(), d.Down(), p.ops, p.down)
	}
	expectSameReads(t, promise, calls, d, p)
}

func expectSameReads(t *testing.T, promise string, calls []call, d *disk.Disk, p *plain) {
	t.Helper()
	names, err := d.Names()
	wantNames, wantErr := p.names()
	if err != wantErr || !slices.Equal(names, wantNames) {
		t.Fatalf("%s: behind %v Names is %q, %v, want %q, %v", promise, calls, names, err, wantNames, wantErr)
	}
	for _, name := range append(sortedNames(p.seen), "", "none", strings.Repeat("n", 65)) {
		data, bad, err := d.Read(name)
		wantData, wantBad, wantErr := p.read(name)
		if err != wantErr || !bytes.Equal(data, wantData) || !slices.Equal(bad, wantBad) {
			t.Fatalf("%s: behind %v Read(%q) is %x, %v, %v, want %x, %v, %v", promise, calls, name, data, bad, err, wantData, wantBad, wantErr)
		}
		if err != nil && (data != nil || bad != nil) {
			t.Fatalf("Rule 1: behind %v Read(%q) has %v, %v beside %v", calls, name, data, bad, err)
		}
	}
}

// played answers a new disk of the image and a plain one, both behind the calls.
func played(t *testing.T, img api.Image, calls []call) (*disk.Disk, *plain) {
	t.Helper()
	d, err := disk.Load(img)
	if err != nil {
		t.Fatalf("P7.1: Load of %s: %v", tell(img), err)
	}
	p := plainOf(img)
	for i, c := range calls {
		if have, want := c.on(d), p.call(c); have != want {
			t.Fatalf("P7.1: of %v the last one answers %v, want %v", calls[:i+1], have, want)
		}
	}
	return d, p
}

// play makes the calls, which all have to answer nil.
func play(t *testing.T, d *disk.Disk, calls ...call) {
	t.Helper()
	for _, c := range calls {
		expectErr(t, d, c, nil)
	}
}

func expectErr(t *testing.T, d *disk.Disk, c call, want error) {
	t.Helper()
	if have := c.on(d); have != want {
		t.Fatalf("P7.1: %v answers %v, want %v", c, have, want)
	}
}

func expectSeen(t *testing.T, d *disk.Disk, want string) {
	t.Helper()
	if have := tell(d.Seen()); have != want {
		t.Errorf("P7.1: Seen is %q, want %q", have, want)
	}
}

func expectSafe(t *testing.T, d *disk.Disk, want string) {
	t.Helper()
	if have := tell(d.Safe()); have != want {
		t.Errorf("P7.1: Safe is %q, want %q", have, want)
	}
}

func expectCrash(t *testing.T, d *disk.Disk, f api.Fates, want string) {
	t.Helper()
	if have := tell(d.Crash(f)); have != want {
		t.Errorf("P7.1: Crash(%v) is %q, want %q", f, have, want)
	}
}

func expectWaiting(t *testing.T, d *disk.Disk, sectors, names int) {
	t.Helper()
	if have, haveNames := d.Waiting(); have != sectors || haveNames != names {
		t.Errorf("P7.1: Waiting is %d, %d, want %d, %d", have, haveNames, sectors, names)
	}
}

func loaded(t *testing.T, files ...api.File) *disk.Disk {
	t.Helper()
	d, err := disk.Load(api.Image{Files: files})
	if err != nil {
		t.Fatalf("P7.1: Load of %s: %v", tell(api.Image{Files: files}), err)
	}
	return d
}
