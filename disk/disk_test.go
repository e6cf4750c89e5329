package disk_test

import (
	"fmt"
	"math"
	"math/rand"
	"reflect"
	"slices"
	"strings"
	"testing"

	"snaffle/api"
	"snaffle/disk"
)

// file is a file whose first bytes last, as many as sure says.
func file(name, data string, sure int) api.File {
	return api.File{Name: name, Data: []byte(data), Sure: sure}
}

// disc is a disk that has power, and no fuse.
func disc(room int, files ...api.File) api.Disk {
	return api.Disk{Files: files, Room: room, Fuse: api.None}
}

// fused is the disk with that fuse.
func fused(d api.Disk, fuse int) api.Disk {
	d.Fuse = fuse
	return d
}

// down is the disk without power.
func down(d api.Disk) api.Disk {
	d.Down = true
	return d
}

// shown is all that a disk is, as text: two disks are the same if it is.
func shown(d api.Disk) string {
	var b strings.Builder
	fmt.Fprintf(&b, "room %d fuse %d down %v", d.Room, d.Fuse, d.Down)
	for _, f := range d.Files {
		fmt.Fprintf(&b, " [%q %q %d]", f.Name, f.Data, f.Sure)
	}
	return b.String()
}

// many are n files of one byte, that last.
func many(n int) []api.File {
	var l []api.File
	for i := range n {
		l = append(l, file(fmt.Sprintf("f%03d", i), "x", 1))
	}
	return l
}

// call is an operation, with all that it is asked.
type call struct {
	what     string
	name, to string
	b        []byte
	n        int
}

// do an operation.
func (c call) do(d api.Disk) (api.Disk, api.Errno) {
	switch c.what {
	case "append":
		return disk.Append(d, c.name, c.b)
	case "sync":
		return disk.Sync(d, c.name)
	case "rename":
		return disk.Rename(d, c.name, c.to)
	case "remove":
		return disk.Remove(d, c.name)
	}
	return disk.Cut(d, c.name, c.n)
}

func (c call) String() string {
	return fmt.Sprintf("%s %q %q %q %d", c.what, c.name, c.to, c.b, c.n)
}

// The operations, each by its name.
func put(name, b string) call     { return call{what: "append", name: name, b: []byte(b)} }
func sync(name string) call       { return call{what: "sync", name: name} }
func rename(name, to string) call { return call{what: "rename", name: name, to: to} }
func remove(name string) call     { return call{what: "remove", name: name} }
func cut(name string, n int) call { return call{what: "cut", name: name, n: n} }

// each operation, on one name.
func each(name, to string) []call {
	return []call{put(name, "12"), sync(name), rename(name, to), remove(name), cut(name, 0)}
}

// wanted holds an answer against what it should be.
func wanted(t *testing.T, what any, got api.Disk, err api.Errno, want api.Disk, wantErr api.Errno) {
	t.Helper()
	if err != wantErr || shown(got) != shown(want) {
		t.Errorf("%v:\n got %s, error %d\nwant %s, error %d", what, shown(got), err, shown(want), wantErr)
	}
}

// wrong are disks that aren't right, by what is wrong with them.
func wrong() map[string]api.Disk {
	return map[string]api.Disk{
		"room below 0":          disc(-1),
		"least room":            disc(math.MinInt),
		"room above most":       disc(api.MaxRoom + 1),
		"greatest room":         disc(math.MaxInt),
		"fuse below None":       fused(disc(9), -2),
		"least fuse":            fused(disc(9), math.MinInt),
		"65 files":              disc(api.MaxRoom, many(api.MaxFiles+1)...),
		"files turned about":    disc(9, file("b", "", 0), file("a", "", 0)),
		"turned about behind":   disc(9, file("a", "", 0), file("c", "", 0), file("b", "", 0)),
		"two of one name":       disc(9, file("a", "", 0), file("a", "", 0)),
		"longer ahead":          disc(9, file("ab", "", 0), file("a", "", 0)),
		"letter ahead of digit": disc(9, file("a", "", 0), file("0", "", 0)),
		"digit ahead of point":  disc(9, file("0", "", 0), file(".", "", 0)),
		"no name":               disc(9, file("", "", 0)),
		"no name behind":        disc(9, file("a", "", 0), file("", "", 0)),
		"name too long":         disc(9, file("12345678901234567", "", 0)),
		"name may not be":       disc(9, file("a-b", "", 0)),
		"sure below 0":          disc(9, file("a", "12", -1)),
		"sure above all":        disc(9, file("a", "12", 3)),
		"sure of no bytes":      disc(9, file("a", "", 1)),
		"greatest sure":         disc(9, file("a", "12", math.MaxInt)),
		"one byte too many":     disc(3, file("a", "12", 1), file("b", "34", 1)),
		"a byte without room":   disc(0, file("a", "1", 0)),
		"65537 bytes":           disc(api.MaxRoom, file("a", strings.Repeat("x", api.MaxRoom+1), 0)),
	}
}

// right are disks that are, at their edges.
func right() map[string]api.Disk {
	return map[string]api.Disk{
		"nothing at all":   {},
		"no room":          disc(0),
		"most room":        disc(api.MaxRoom),
		"fuse 0":           fused(disc(9), 0),
		"greatest fuse":    fused(disc(9), math.MaxInt),
		"no power":         down(disc(9)),
		"no power, a fuse": down(fused(disc(9), 3)),
		"64 files":         disc(api.MaxFiles, many(api.MaxFiles)...),
		"full":             disc(4, file("a", "12", 0), file("b", "34", 2)),
		"without bytes":    disc(0, file("a", "", 0)),
		"65536 bytes":      disc(api.MaxRoom, file("a", strings.Repeat("x", api.MaxRoom), api.MaxRoom)),
		"names rising":     disc(0, file(".", "", 0), file("0", "", 0), file("9", "", 0), file("a", "", 0), file("a.", "", 0), file("ab", "", 0), file("b", "", 0), file("z", "", 0)),
		"longest name":     disc(0, file("1234567890123456", "", 0)),
	}
}

// P3.1: what a right disk is, each of its edges.
func TestRight(t *testing.T) {
	for what, d := range right() {
		if !disk.Right(d) {
			t.Errorf("%s: isn't right", what)
		}
	}
	for what, d := range wrong() {
		if disk.Right(d) {
			t.Errorf("%s: is right", what)
		}
	}
}

// P3.1, P3.2: of all bytes, a to z, 0 to 9 and the point may stand in a name, wherever it is.
func TestNames(t *testing.T) {
	for c := range 256 {
		may := strings.Contains("abcdefghijklmnopqrstuvwxyz0123456789.", string(rune(c)))
		for _, form := range []string{"%s", "%sa", "a%s", "a%sa"} {
			name := fmt.Sprintf(form, string([]byte{byte(c)}))
			if got := disk.Right(disc(0, file(name, "", 0))); got != may {
				t.Errorf("Right with the name %q: %v", name, got)
			}
			d, err := disk.Append(disc(1), name, nil)
			if may && (err != api.OK || len(d.Files) != 1 || d.Files[0].Name != name) || !may && (err != api.ErrArg || len(d.Files) != 0) {
				t.Errorf("Append to %q: %s, error %d", name, shown(d), err)
			}
		}
	}
	for n := range 40 {
		name := strings.Repeat("n", n)
		if got := disk.Right(disc(0, file(name, "", 0))); got != (n >= 1 && n <= api.MaxName) {
			t.Errorf("Right with a name of %d signs: %v", n, got)
		}
	}
}

// P3.1: a new disk, and rooms that may not be.
func TestNew(t *testing.T) {
	for _, room := range []int{0, 1, 77, api.MaxRoom - 1, api.MaxRoom} {
		d, err := disk.New(room)
		wanted(t, room, d, err, api.Disk{Room: room, Fuse: api.None}, api.OK)
	}
	for _, room := range []int{-1, math.MinInt, api.MaxRoom + 1, math.MaxInt} {
		d, err := disk.New(room)
		wanted(t, room, d, err, api.Disk{}, api.ErrArg)
	}
}

// P3.1: bytes are counted, whether or not they last, of any disk.
func TestUsed(t *testing.T) {
	for _, x := range []struct {
		d    api.Disk
		want int
	}{
		{api.Disk{}, 0},
		{disc(9), 0},
		{disc(9, file("a", "", 0)), 0},
		{disc(9, file("a", "123", 1), file("b", "", 0), file("c", "45", 2)), 5},
		{down(disc(9, file("a", "123", 1))), 3},
		{disc(-1, file("b", "1234", 9), file("a", "5", 0), file("", "6", -4)), 6},
	} {
		if got := disk.Used(x.d); got != x.want {
			t.Errorf("Used of %s: %d; want %d", shown(x.d), got, x.want)
		}
	}
}

// P3.2, P3.3: what each operation does, where nothing stands against it; it costs one of the fuse, if there is one.
func TestOperations(t *testing.T) {
	d := disc(9, file("b", "123", 2), file("d", "45", 1))
	b, f := d.Files[0], d.Files[1]
	for _, x := range []struct {
		c    call
		want api.Disk
	}{
		{put("b", "67"), disc(9, file("b", "12367", 2), f)},
		{put("d", "6789"), disc(9, b, file("d", "456789", 1))},
		{put("b", ""), d},
		{put("a", "6"), disc(9, file("a", "6", 0), b, f)},
		{put("c", "67"), disc(9, b, file("c", "67", 0), f)},
		{put("e", "6789"), disc(9, b, f, file("e", "6789", 0))},
		{put("b.", ""), disc(9, b, file("b.", "", 0), f)},
		{put("b", "\x00\xff"), disc(9, file("b", "123\x00\xff", 2), f)},
		{sync("b"), disc(9, file("b", "123", 3), f)},
		{sync("d"), disc(9, b, file("d", "45", 2))},
		{rename("b", "e"), disc(9, f, file("e", "123", 2))},
		{rename("b", "c"), disc(9, file("c", "123", 2), f)},
		{rename("d", "a"), disc(9, file("a", "45", 1), b)},
		{rename("b", "d"), disc(9, file("d", "123", 2))},
		{rename("d", "b"), disc(9, file("b", "45", 1))},
		{rename("b", "b"), d},
		{rename("d", "d"), d},
		{remove("b"), disc(9, f)},
		{remove("d"), disc(9, b)},
		{cut("b", 0), disc(9, file("b", "", 0), f)},
		{cut("b", 1), disc(9, file("b", "1", 1), f)},
		{cut("b", 2), disc(9, file("b", "12", 2), f)},
		{cut("b", 3), d},
		{cut("d", 2), d},
		{cut("d", 0), disc(9, b, file("d", "", 0))},
	} {
		for _, fuse := range []int{api.None, 1, 2, 77, math.MaxInt} {
			want := fused(x.want, fuse-1)
			if fuse == api.None {
				want.Fuse = api.None
			}
			got, err := x.c.do(fused(d, fuse))
			wanted(t, fmt.Sprint(x.c, " fuse ", fuse), got, err, want, api.OK)
			if !disk.Right(got) {
				t.Errorf("%v: the disk isn't right behind it: %s", x.c, shown(got))
			}
		}
	}
}

// The power goes within an operation where no fuse is left: an Append's bytes are there, but don't last; else nothing is done.
func TestPowerGoesWithin(t *testing.T) {
	d := fused(disc(9, file("b", "123", 2), file("d", "45", 1)), 0)
	b, f := d.Files[0], d.Files[1]
	for _, x := range []struct {
		c    call
		want []api.File
	}{
		{put("b", "67"), []api.File{file("b", "12367", 2), f}},
		{put("c", "6789"), []api.File{b, file("c", "6789", 0), f}},
		{put("c", ""), []api.File{b, file("c", "", 0), f}},
		{put("d", ""), d.Files},
		{sync("b"), d.Files},
		{rename("b", "c"), d.Files},
		{rename("b", "d"), d.Files},
		{rename("b", "b"), d.Files},
		{remove("b"), d.Files},
		{cut("b", 0), d.Files},
		{cut("b", 1), d.Files},
		{cut("d", 2), d.Files},
	} {
		got, err := x.c.do(d)
		wanted(t, x.c, got, err, down(fused(disc(9, x.want...), 0)), api.ErrDown)
	}
}

// P3.2: there is room for so many bytes, and so many files, and no more; such an error costs nothing.
func TestFull(t *testing.T) {
	l := many(api.MaxFiles)
	for _, fuse := range []int{api.None, 0, 5} {
		for _, x := range []struct {
			d api.Disk
			c call
		}{
			{disc(4, file("a", "123", 3)), put("a", "45")},
			{disc(4, file("a", "123", 3)), put("b", "45")},
			{disc(3, file("a", "123", 3)), put("a", "4")},
			{disc(0), put("a", "1")},
			{disc(api.MaxRoom), put("a", strings.Repeat("x", api.MaxRoom+1))},
			{disc(api.MaxRoom, l...), put("a", "")},
			{disc(api.MaxRoom, l...), put("z", "1")},
		} {
			d := fused(x.d, fuse)
			got, err := x.c.do(d)
			wanted(t, x.c.name, got, err, d, api.ErrFull)
		}
	}
	for _, x := range []struct {
		d    api.Disk
		c    call
		want api.Disk
	}{
		{disc(4, file("a", "123", 3)), put("a", "4"), disc(4, file("a", "1234", 3))},
		{disc(4, file("a", "123", 3)), put("b", "4"), disc(4, file("a", "123", 3), file("b", "4", 0))},
		{disc(3, file("a", "123", 3)), put("b", ""), disc(3, file("a", "123", 3), file("b", "", 0))},
		{disc(0), put("a", ""), disc(0, file("a", "", 0))},
		{disc(api.MaxFiles, l[:63]...), put("z", "1"), disc(api.MaxFiles, append(many(63), file("z", "1", 0))...)},
		{disc(65, l...), put("f063", "y"), disc(65, append(many(63), file("f063", "xy", 1))...)},
	} {
		got, err := x.c.do(x.d)
		wanted(t, x.c, got, err, x.want, api.OK)
	}
	whole := strings.Repeat("x", api.MaxRoom)
	got, err := disk.Append(disc(api.MaxRoom), "a", []byte(whole))
	wanted(t, "all room", got, err, disc(api.MaxRoom, file("a", whole, 0)), api.OK)
	got, err = disk.Rename(disc(api.MaxFiles, l...), "f000", "z")
	wanted(t, "rename of 64", got, err, disc(api.MaxFiles, append(slices.Clone(l[1:]), file("z", "x", 1))...), api.OK)
}

// P3.1 to P3.4: of several errors the first one that the chapter names is told, and the disk stays as it is, without cost.
func TestOrderOfErrors(t *testing.T) {
	bad := "may not be"
	d := disc(5, file("a", "123", 2), file("b", "45", 0))
	upset := disc(4, d.Files...)
	refuse := func(d api.Disk, want api.Errno, l ...call) {
		t.Helper()
		for _, c := range l {
			for _, fuse := range []int{api.None, 0, 1} {
				d := fused(d, fuse)
				got, err := c.do(d)
				wanted(t, fmt.Sprint(c, " of ", shown(d)), got, err, d, want)
			}
		}
	}
	for _, name := range []string{"a", "z", bad, ""} {
		refuse(upset, api.ErrArg, each(name, "c")...)
		refuse(down(upset), api.ErrArg, each(name, bad)...)
		refuse(down(d), api.ErrDown, each(name, "c")...)
		refuse(down(d), api.ErrDown, each(name, bad)...)
		refuse(down(d), api.ErrDown, cut(name, -1), cut(name, 4))
	}
	refuse(d, api.ErrArg, each(bad, "c")...)
	refuse(d, api.ErrArg, each("", "c")...)
	refuse(d, api.ErrArg, each("A", "c")...)
	refuse(d, api.ErrArg, each("12345678901234567", "c")...)
	refuse(d, api.ErrArg, put(bad, "too many bytes"), rename("a", bad), rename("a", ""), rename("z", bad), rename(bad, bad), rename(bad, "a"), rename("a", "12345678901234567"))
	refuse(d, api.ErrArg, cut("a", -1), cut("a", 4), cut("a", math.MinInt), cut("a", math.MaxInt), cut("b", 3), cut(bad, -1), cut(bad, 4))
	refuse(d, api.ErrNone, sync("z"), rename("z", "a"), rename("z", "z"), rename("z", "y"), remove("z"), cut("z", 0), cut("z", -1), cut("z", 4), cut("z", math.MaxInt), sync("0"), remove("aa"))
	refuse(d, api.ErrFull, put("a", "6"), put("z", "6"))
	for what, d := range wrong() {
		for _, c := range each("a", "c") {
			got, err := c.do(d)
			wanted(t, what, got, err, d, api.ErrArg)
		}
	}
}

// P3.4: a file's bytes, whether or not they last; it costs nothing.
func TestRead(t *testing.T) {
	d := disc(9, file("a", "123", 2), file("b", "", 0), file("c", "\x00\xff", 0))
	for _, x := range []struct {
		d    api.Disk
		name string
		want string
		err  api.Errno
	}{
		{d, "a", "123", api.OK},
		{d, "b", "", api.OK},
		{d, "c", "\x00\xff", api.OK},
		{fused(d, 0), "a", "123", api.OK},
		{fused(d, 1), "a", "123", api.OK},
		{d, "d", "", api.ErrNone},
		{d, "0", "", api.ErrNone},
		{d, "aa", "", api.ErrNone},
		{fused(d, 0), "d", "", api.ErrNone},
		{d, "", "", api.ErrArg},
		{d, "A", "", api.ErrArg},
		{d, "12345678901234567", "", api.ErrArg},
		{down(d), "a", "", api.ErrDown},
		{down(d), "d", "", api.ErrDown},
		{down(d), "A", "", api.ErrDown},
		{fused(d, -2), "a", "", api.ErrArg},
		{down(fused(d, -2)), "a", "", api.ErrArg},
		{fused(d, -2), "d", "", api.ErrArg},
	} {
		got, err := disk.Read(x.d, x.name)
		if string(got) != x.want || err != x.err {
			t.Errorf("Read %q of %s: %q, %d; want %q, %d", x.name, shown(x.d), got, err, x.want, x.err)
		}
	}
	for what, d := range wrong() {
		if got, err := disk.Read(d, "a"); len(got) != 0 || err != api.ErrArg {
			t.Errorf("Read of a disk with %s: %q, %d", what, got, err)
		}
	}
}

// P3.5: what the power leaves, by the places of keep, counted round and round.
func TestBack(t *testing.T) {
	d := disc(20, file("a", "12345", 2), file("b", "67", 0), file("c", "89", 2), file("d", "xyz", 1), file("e", "", 0))
	all := []string{"12345", "67", "89", "xyz", ""}
	sure := []string{"12", "", "89", "x", ""}
	for _, x := range []struct {
		keep []int
		want []string
	}{
		{nil, sure},
		{[]int{}, sure},
		{[]int{0}, sure},
		{[]int{-1}, sure},
		{[]int{math.MinInt}, sure},
		{[]int{1}, []string{"123", "6", "89", "xy", ""}},
		{[]int{2}, []string{"1234", "67", "89", "xyz", ""}},
		{[]int{3}, all},
		{[]int{4}, all},
		{[]int{math.MaxInt}, all},
		{[]int{3, 0}, []string{"12345", "", "89", "x", ""}},
		{[]int{0, 1}, []string{"12", "6", "89", "xy", ""}},
		{[]int{1, 2, -5}, []string{"123", "67", "89", "xy", ""}},
		{[]int{0, 0, 9, 2, 9, 9, 9}, []string{"12", "", "89", "xyz", ""}},
		{[]int{math.MaxInt, math.MinInt, 1, 1, 1}, []string{"12345", "", "89", "xy", ""}},
	} {
		var l []api.File
		for i, s := range x.want {
			l = append(l, file(d.Files[i].Name, s, len(s)))
		}
		for _, fuse := range []int{api.None, 0, 1, math.MaxInt} {
			for _, from := range []api.Disk{d, down(d), fused(d, 3), down(fused(d, 0))} {
				got, err := disk.Back(from, x.keep, fuse)
				wanted(t, x.keep, got, err, fused(disc(20, l...), fuse), api.OK)
			}
		}
	}
	got, err := disk.Back(api.Disk{}, []int{1}, api.None)
	wanted(t, "no files", got, err, disc(0), api.OK)
}

// P3.5: what may not be leaves the disk as it is.
func TestBackOfWrong(t *testing.T) {
	d := disc(9, file("a", "123", 1))
	for _, fuse := range []int{-2, -3, math.MinInt} {
		for _, from := range []api.Disk{d, down(d), down(fused(d, 0))} {
			got, err := disk.Back(from, []int{1}, fuse)
			wanted(t, fuse, got, err, from, api.ErrArg)
		}
	}
	for what, d := range wrong() {
		for _, from := range []api.Disk{d, down(d)} {
			got, err := disk.Back(from, []int{1}, api.None)
			wanted(t, what, got, err, from, api.ErrArg)
		}
	}
}

// model is a disk told otherwise: files by their names.
type model struct {
	data       map[string]string
	sure       map[string]int
	room, fuse int
	down       bool
}

// disk is what the model stands for.
func (m model) disk() api.Disk {
	d := api.Disk{Room: m.room, Fuse: m.fuse, Down: m.down}
	var names []string
	for name := range m.data {
		names = append(names, name)
	}
	slices.Sort(names)
	for _, name := range names {
		d.Files = append(d.Files, file(name, m.data[name], m.sure[name]))
	}
	return d
}

// stands is what stands against a call, but for the fuse.
func (m model) stands(c call) api.Errno {
	data, there := m.data[c.name]
	total := 0
	for _, s := range m.data {
		total += len(s)
	}
	may := strings.Trim(c.name+c.to, "abc.") == "" && c.name != "" && (c.what != "rename" || c.to != "")
	switch {
	case m.down:
		return api.ErrDown
	case !may, c.what == "cut" && there && (c.n < 0 || c.n > len(data)):
		return api.ErrArg
	case c.what != "append" && !there:
		return api.ErrNone
	case c.what == "append" && total+len(c.b) > m.room:
		return api.ErrFull
	}
	return api.OK
}

// do a call.
func (m *model) do(c call) api.Errno {
	if err := m.stands(c); err != api.OK {
		return err
	}
	if c.what == "append" {
		m.data[c.name] += string(c.b)
	}
	if m.fuse == 0 {
		m.down = true
		return api.ErrDown
	}
	if m.fuse > 0 {
		m.fuse--
	}
	data, sure := m.data[c.name], m.sure[c.name]
	switch c.what {
	case "sync":
		m.sure[c.name] = len(data)
	case "rename", "remove":
		delete(m.data, c.name)
		delete(m.sure, c.name)
		if c.what == "rename" {
			m.data[c.to], m.sure[c.to] = data, sure
		}
	case "cut":
		m.data[c.name], m.sure[c.name] = data[:c.n], min(sure, c.n)
	}
	return api.OK
}

// anyCall is one of all calls that may be, and some that may not.
func anyCall(r *rand.Rand) call {
	names := []string{"a", "b", "c", "a.", "ab", "", "B"}
	c := call{what: []string{"append", "append", "append", "sync", "sync", "rename", "remove", "cut"}[r.Intn(8)], name: names[r.Intn(len(names))]}
	switch c.what {
	case "append":
		c.b = []byte("0123456789"[:r.Intn(6)])
	case "rename":
		c.to = names[r.Intn(len(names))]
	case "cut":
		c.n = r.Intn(9) - 1
	}
	return c
}

// P3.2 to P3.6: however operations, and the power, follow one another, it is as a disk told otherwise has it;
// and what lasts is lost by Rename, Remove and Cut alone.
func TestOneBehindTheOther(t *testing.T) {
	for seed := range 300 {
		r := rand.New(rand.NewSource(int64(seed)))
		m := model{data: map[string]string{}, sure: map[string]int{}, room: r.Intn(40), fuse: api.None}
		d, _ := disk.New(m.room)
		for range 100 {
			was := d
			if m.down || r.Intn(15) == 0 {
				d = comesBack(t, r, &m, d)
			} else {
				c := anyCall(r)
				want := m.do(c)
				got, err := c.do(d)
				wanted(t, fmt.Sprint(c, " of ", shown(d)), got, err, m.disk(), want)
				d = got
				if c.what == "rename" || c.what == "remove" || c.what == "cut" {
					continue
				}
			}
			lasts(t, was, d)
			if !disk.Right(d) || t.Failed() {
				t.Fatalf("seed %d: isn't right: %s", seed, shown(d))
			}
		}
	}
}

// comesBack: the power comes again, to the model and to the disk.
func comesBack(t *testing.T, r *rand.Rand, m *model, d api.Disk) api.Disk {
	t.Helper()
	keep := make([]int, r.Intn(5))
	for i := range keep {
		keep[i] = r.Intn(7) - 1
	}
	for i, f := range m.disk().Files {
		n := f.Sure
		for len(keep) > 0 && n < len(f.Data) && n-f.Sure < keep[i%len(keep)] {
			n++
		}
		m.data[f.Name], m.sure[f.Name] = string(f.Data[:n]), n
	}
	m.down, m.fuse = false, r.Intn(12)-1
	got, err := disk.Back(d, keep, m.fuse)
	wanted(t, fmt.Sprint(keep, " of ", shown(d)), got, err, m.disk(), api.OK)
	return got
}

// lasts: each file is there with all that lasted of it.
func lasts(t *testing.T, was, is api.Disk) {
	t.Helper()
	for _, f := range was.Files {
		i := slices.IndexFunc(is.Files, func(g api.File) bool { return g.Name == f.Name })
		if i < 0 || is.Files[i].Sure < f.Sure || !strings.HasPrefix(string(is.Files[i].Data), string(f.Data[:f.Sure])) {
			t.Errorf("of %s something was lost: %s", shown(was), shown(is))
		}
	}
}

// roomy is a disk whose lists have spare room, and all that is in it.
func roomy() (api.Disk, []api.File, []byte) {
	data := []byte("123456789abcdefghi")
	files := []api.File{
		{Name: "a", Data: data[:3], Sure: 2},
		{Name: "b", Data: data[6:8], Sure: 1},
		file("spare", "room", 9),
		file("more", "of it", 9),
		{Name: "c", Data: data[9:]},
	}
	return disc(40, files[:2]...), files, data
}

// roomyCalls are calls of all kinds that go well, and some that don't.
func roomyCalls(d api.Disk) map[string]func(api.Disk) api.Disk {
	l := map[string]func(api.Disk) api.Disk{
		"back":       func(d api.Disk) api.Disk { d, _ = disk.Back(d, []int{1}, 3); return d },
		"back wrong": func(d api.Disk) api.Disk { d, _ = disk.Back(d, []int{1}, -2); return d },
		"own bytes":  func(d api.Disk) api.Disk { d, _ = disk.Append(d, "b", d.Files[0].Data); return d },
	}
	calls := append(each("a", "b"), each("a", "c")...)
	calls = append(calls, each("z", "a")...)
	calls = append(calls, each("A", "a")...)
	calls = append(calls, put("a", "xyz"), put("a", ""), put("0", "new"), put("aa", ""), put("a", strings.Repeat("x", 41)), rename("b", "0"), rename("a", "a"), cut("a", 1), cut("a", 3), cut("b", -1))
	for _, c := range calls {
		l[c.String()] = func(d api.Disk) api.Disk { d, _ = c.do(d); return d }
	}
	return l
}

// The rules of the document: what is handed in stays as it is, its spare room too, and an answer is new memory,
// so that whoever changes one changes nothing else.
func TestLeavesWhatIsHandedIn(t *testing.T) {
	start, _, _ := roomy()
	for _, kind := range []func(api.Disk) api.Disk{
		func(d api.Disk) api.Disk { return d },
		down,
		func(d api.Disk) api.Disk { return fused(d, 0) },
		func(d api.Disk) api.Disk { return fused(d, -2) },
	} {
		for what, f := range roomyCalls(start) {
			d, files, data := roomy()
			_, wasFiles, wasData := roomy()
			got := f(kind(d))
			same := shown(got)
			for i := range got.Files {
				g := &got.Files[i]
				for j := range g.Data[:cap(g.Data)] {
					g.Data[:cap(g.Data)][j] = '!'
				}
				*g = api.File{Name: "other"}
			}
			for i := range got.Files[:cap(got.Files)] {
				got.Files[:cap(got.Files)][i] = api.File{Name: "other"}
			}
			if !reflect.DeepEqual(files, wasFiles) || string(data) != string(wasData) {
				t.Fatalf("%s: what was handed in became another", what)
			}
			if again := shown(f(kind(d))); again != same {
				t.Errorf("%s: the same disk has another answer later:\n%s\n%s", what, same, again)
			}
		}
	}
}

// No two files of an answer share bytes, even where they did in what was handed in.
func TestFilesShareNothing(t *testing.T) {
	data := []byte("12345")
	d := disc(40, api.File{Name: "a", Data: data}, api.File{Name: "b", Data: data}, api.File{Name: "c", Data: data[2:]})
	for what, f := range roomyCalls(d) {
		got := f(d)
		for i := range got.Files {
			others := slices.Concat(got.Files[:i], got.Files[i+1:])
			was := shown(disc(0, others...))
			for j := range got.Files[i].Data {
				got.Files[i].Data[j] ^= 0xFF
			}
			if shown(disc(0, others...)) != was {
				t.Errorf("%s: two files share bytes", what)
			}
		}
	}
}

// P3.4: bytes that were read are the reader's own; bytes that were appended are the disk's own.
func TestBytesOfOnesOwn(t *testing.T) {
	d, files, data := roomy()
	_, wasFiles, wasData := roomy()
	b, _ := disk.Read(d, "a")
	for i := range b[:cap(b)] {
		b[:cap(b)][i] = '!'
	}
	if !reflect.DeepEqual(files, wasFiles) || string(data) != string(wasData) {
		t.Error("whoever read a file changed it")
	}
	own := []byte("own bytes")
	got, _ := disk.Append(d, "z", own[:3])
	was := shown(got)
	copy(own, "!!!!!!!!!")
	if shown(got) != was {
		t.Error("whoever appended bytes changed the file later")
	}
	keep := []int{1, 2, 3}
	disk.Back(d, keep[:2], 1)
	if !slices.Equal(keep, []int{1, 2, 3}) {
		t.Error("keep became another")
	}
}

// The chapter's example: appended and not synced, some first bytes are there when the power comes again.
func TestExample(t *testing.T) {
	d, _ := disk.New(100)
	d, _ = disk.Append(d, "log", []byte("lasts"))
	d, _ = disk.Sync(d, "log")
	d, _ = disk.Append(d, "log", []byte(" or not"))
	for n := range 9 {
		back, err := disk.Back(d, []int{n}, api.None)
		got, _ := disk.Read(back, "log")
		if want := "lasts" + " or not"[:min(n, 7)]; err != api.OK || string(got) != want {
			t.Errorf("keep %d: %q, %d; want %q", n, got, err, want)
		}
	}
}
