package path

import (
	"math"
	"slices"
	"strings"
	"testing"

	"aviary/api"
)

// fill makes a name of n bytes.
func fill(n int) string { return strings.Repeat("x", n) }

// deep makes a path of n names of one byte.
func deep(n int) string { return strings.Repeat("/d", n) }

// wide makes a path of n bytes, of names that are as long as may be.
func wide(n int) string {
	full := strings.Repeat("/"+fill(api.MaxName), n/(api.MaxName+1))
	if rest := n - len(full); rest > 0 {
		full += "/" + fill(rest-1)
	}
	return full
}

// goodPaths are paths, with their names.
func goodPaths() map[string][]string {
	wideNames := strings.Split(wide(api.MaxPath)[1:], "/")
	return map[string][]string{
		"/a":                  {"a"},
		"/a/b":                {"a", "b"},
		"/ab/c/def":           {"ab", "c", "def"},
		"/...":                {"..."},
		"/.a/a./..b/a..":      {".a", "a.", "..b", "a.."},
		"/!":                  {"!"},
		"/~":                  {"~"},
		"/a/a/a":              {"a", "a", "a"},
		"/0/-1":               {"0", "-1"},
		"/\\":                 {"\\"},
		"/" + fill(1):         {fill(1)},
		"/" + fill(39):        {fill(39)},
		"/" + fill(40):        {fill(40)},
		"/a/" + fill(40):      {"a", fill(40)},
		"/" + fill(40) + "/a": {fill(40), "a"},
		deep(7):               slices.Repeat([]string{"d"}, 7),
		deep(8):               slices.Repeat([]string{"d"}, 8),
		wide(199):             strings.Split(wide(199)[1:], "/"),
		wide(200):             wideNames,
	}
}

// badPaths are texts that are none.
func badPaths() []string {
	return []string{
		"", "/", "//", "///", "a", "a/b", "a/", " /a", "/a/", "/a//", "//a", "/a//b", "/a/b/",
		"/.", "/..", "/./a", "/../a", "/a/.", "/a/..", "/a/./b", "/a/../b",
		"/a b", "/ ", "/a ", "/a\n", "/a\x00", "/\x00", "/a\x1f", "/\x20a", "/\x7f", "/a\x7f", "/a\x80b", "/\xff",
		"/é", "/a/é", "/日本", "\\a", "\\a\\b",
		"/" + fill(41), "/a/" + fill(41), "/" + fill(41) + "/a", "/" + fill(199),
		deep(9), deep(100), deep(8) + "/", wide(201), wide(202), wide(246), "/" + strings.Repeat("a", 1<<20), strings.Repeat("/", 1<<20),
	}
}

// P1.1: what is a path, and its names.
func TestPaths(t *testing.T) {
	for p, names := range goodPaths() {
		if !Good(p) {
			t.Errorf("Good(%q): false", p)
		}
		if got := Parts(p); !slices.Equal(got, names) {
			t.Errorf("Parts(%q): %q, not %q", p, got, names)
		}
		if got := Name(p); got != names[len(names)-1] {
			t.Errorf("Name(%q): %q", p, got)
		}
		if got := Top(p); got != names[0] {
			t.Errorf("Top(%q): %q", p, got)
		}
		if got, e := Join(names...); got != p || e != api.OK {
			t.Errorf("Join(%q): %q, %v", names, got, e)
		}
		want := ""
		for _, name := range names[:len(names)-1] {
			want += "/" + name
		}
		if got, ok := Parent(p); got != want || ok != (len(names) > 1) {
			t.Errorf("Parent(%q): %q, %v", p, got, ok)
		}
	}
}

// P1.1: of what is no path nothing is told.
func TestNoPaths(t *testing.T) {
	for _, p := range badPaths() {
		if Good(p) {
			t.Errorf("Good(%.60q): true", p)
		}
		if got := Parts(p); len(got) != 0 {
			t.Errorf("Parts(%.60q): %q", p, got)
		}
		if Name(p) != "" || Top(p) != "" {
			t.Errorf("of %.60q: Name %q, Top %q", p, Name(p), Top(p))
		}
		if got, ok := Parent(p); got != "" || ok {
			t.Errorf("Parent(%.60q): %q, %v", p, got, ok)
		}
		if Within(p, p) || Within(p, "/a") || Within("/a", p) || Within("/a/b", p) {
			t.Errorf("Within of %.60q: true", p)
		}
		if got, e := Number(p, 1); got != "" || e != api.EARG {
			t.Errorf("Number(%.60q, 1): %q, %v", p, got, e)
		}
	}
}

// P1.1: each byte at each place of a name.
func TestBytes(t *testing.T) {
	for b := range 256 {
		s := string([]byte{byte(b)})
		want := b >= 33 && b <= 126 && b != '/'
		for _, name := range []string{"a" + s, s + "a", "a" + s + "a", "ab" + s} {
			if p := "/q/" + name; Good(p) != want && b != '/' {
				t.Errorf("Good(%q): %v", p, !want)
			}
			if _, e := Join("q", name); (e == api.OK) != want {
				t.Errorf("Join of %q: %v", name, e)
			}
		}
	}
}

// P1.1: Join of what is no path, and a list that stays as it was.
func TestJoinRefuses(t *testing.T) {
	full := slices.Repeat([]string{fill(40)}, 5)
	for _, names := range [][]string{
		nil, {}, {""}, {"", ""}, {"a", ""}, {"", "a"}, {"a", "", "b"}, {"a/b"}, {"/"}, {"/a"}, {"a/"}, {"a", "b/c"},
		{"."}, {".."}, {"a", "."}, {"..", "a"}, {"a b"}, {"\x20"}, {"\x7f"}, {"a", "é"},
		{fill(41)}, {"a", fill(41)}, slices.Repeat([]string{"a"}, 9), slices.Repeat([]string{"a"}, 1<<20), full, {strings.Repeat("a", 1<<20)},
		{fill(40), fill(40), fill(40), fill(40), fill(36)},
	} {
		if p, e := Join(names...); p != "" || e != api.EARG {
			t.Errorf("Join of %d names: %q, %v", len(names), p, e)
		}
	}
	if p, e := Join(); p != "" || e != api.EARG {
		t.Errorf("Join(): %q, %v", p, e)
	}
	if p, e := Join(fill(40), fill(40), fill(40), fill(40), fill(35)); len(p) != api.MaxPath || e != api.OK {
		t.Errorf("Join to MaxPath bytes: %q, %v", p, e)
	}
}

// R4: what is handed in stays as it was, what is answered is its taker's.
func TestLists(t *testing.T) {
	names := []string{"a", "b", "c", "spare"}
	if p, e := Join(names[:2]...); p != "/a/b" || e != api.OK {
		t.Errorf("Join: %q, %v", p, e)
	}
	if !slices.Equal(names, []string{"a", "b", "c", "spare"}) {
		t.Errorf("Join changed its list: %q", names)
	}
	first := Parts("/a/b")
	first[0] = "z"
	if again := append(Parts("/a/b"), "c"); !slices.Equal(again, []string{"a", "b", "c"}) {
		t.Errorf("Parts hangs on an earlier answer: %q", again)
	}
}

// P1.1: Within goes by whole names.
func TestWithin(t *testing.T) {
	for _, c := range []struct {
		p, top string
		want   bool
	}{
		{"/a", "/a", true}, {"/a/b", "/a", true}, {"/a/b/c", "/a", true}, {"/a/b/c", "/a/b", true}, {"/a/b/c", "/a/b/c", true},
		{deep(8), "/d", true}, {deep(8), deep(7), true}, {deep(8), deep(8), true}, {wide(200), wide(41), true}, {wide(200), wide(200), true},
		{"/a", "/a/b", false}, {"/ab", "/a", false}, {"/a", "/ab", false}, {"/a/bc", "/a/b", false}, {"/a/b", "/a/bc", false},
		{"/a-/b", "/a", false}, {"/b", "/a", false}, {"/a/b", "/b", false}, {"/b/a", "/a", false}, {"/a/b/c", "/a/c", false}, {"/A", "/a", false},
		{deep(7), deep(8), false}, {deep(9), deep(8), false}, {deep(9), "/d", false}, {wide(201), wide(41), false},
		{"/a/b", "/", false}, {"/a/b", "", false}, {"/a/b", "/a/", false}, {"/a/", "/a", false}, {"/a//b", "/a", false}, {"/a/..", "/a", false},
		{"", "", false}, {"/", "/", false}, {"a", "a", false}, {"a/b", "a", false},
	} {
		if got := Within(c.p, c.top); got != c.want {
			t.Errorf("Within(%q, %q): %v", c.p, c.top, got)
		}
	}
}

// P1.1: Number's ten digits.
func TestNumber(t *testing.T) {
	for _, c := range []struct {
		p    string
		n    int
		want string
	}{
		{"/a/b", 7, "/a/b0000000007"}, {"/a", 0, "/a0000000000"}, {"/a", 9, "/a0000000009"}, {"/a", 10, "/a0000000010"},
		{"/a", 1234567890, "/a1234567890"}, {"/a", 999999999, "/a0999999999"}, {"/a", 2147483646, "/a2147483646"}, {"/a", 2147483647, "/a2147483647"},
		{"/a1", 1, "/a10000000001"}, {"/...", 1, "/...0000000001"}, {deep(8), 1, deep(8) + "0000000001"},
		{"/" + fill(30), 0, "/" + fill(30) + "0000000000"}, {"/" + fill(40) + "/a", 5, "/" + fill(40) + "/a0000000005"}, {wide(190), 3, wide(190) + "0000000003"},
	} {
		if got, e := Number(c.p, c.n); got != c.want || e != api.OK {
			t.Errorf("Number(%q, %d): %q, %v", c.p, c.n, got, e)
		}
	}
}

// P1.1: what Number refuses.
func TestNumberRefuses(t *testing.T) {
	for _, c := range []struct {
		p string
		n int
	}{
		{"/a", -1}, {"/a", math.MinInt32}, {"/a", math.MinInt}, {"/a", math.MaxInt32 + 1}, {"/a", 1 << 32}, {"/a", 1<<32 + 7}, {"/a", 10000000000}, {"/a", math.MaxInt},
		{"", 1}, {"/", 1}, {"a", 1}, {"/a/", 1}, {"/.", 1}, {"/..", 1}, {"/a/", -1}, {"/a b", 1},
		{"/" + fill(31), 0}, {"/" + fill(40), 1}, {"/a/" + fill(31), 2147483647}, {wide(191), 1}, {wide(200), 1}, {deep(9), 1},
	} {
		if got, e := Number(c.p, c.n); got != "" || e != api.EARG {
			t.Errorf("Number(%q, %d): %q, %v", c.p, c.n, got, e)
		}
	}
}
