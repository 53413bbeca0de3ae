// What no single layer owns is tested here, at the topmost one: the numbers of api, and which packages may call which.

package host_test

import (
	"go/parser"
	"go/token"
	"path/filepath"
	"slices"
	"strconv"
	"strings"
	"testing"

	"picklock/api"
)

// calls are the layers in their order, each with those that the document's map lets it call.
var calls = []struct {
	layer string
	below string
}{
	{"octet", ""},
	{"crc", ""},
	{"varnum", "octet"},
	{"ips", "octet"},
	{"ipsmake", "octet ips"},
	{"ups", "octet crc varnum"},
	{"bps", "octet crc varnum"},
	{"bpsmake", "octet crc varnum bps"},
	{"ines", "octet"},
	{"gbhead", ""},
	{"nesmap", "ines"},
	{"gbmap", "gbhead"},
	{"alu", ""},
	{"mos", "alu"},
	{"ppu", "ines"},
	{"nes", "ines nesmap mos ppu"},
	{"sharp", ""},
	{"sm", "sharp"},
	{"io", ""},
	{"gb", "gbhead gbmap sm io"},
	{"genie", ""},
	{"gbcode", ""},
	{"cheat", ""},
	{"search", ""},
	{"script", ""},
	{"host", "crc ips ipsmake ups bps bpsmake ines gbhead nes gb genie gbcode cheat search script"},
}

// library are the packages that the language of the program lets in: none of them has a clock, a random source, a file or a network (R4).
const library = "bytes cmp container/heap errors iter maps math math/bits slices sort strconv strings sync sync/atomic unicode unicode/utf8"

// imports tells what the package's own files import.
func imports(t *testing.T, layer string) []string {
	t.Helper()
	files, err := filepath.Glob(filepath.Join("..", layer, "*.go"))
	if err != nil {
		t.Fatal(err)
	}
	files = slices.DeleteFunc(files, func(f string) bool { return strings.HasSuffix(f, "_test.go") })
	if len(files) == 0 {
		t.Errorf("%s has no files", layer)
	}
	var out []string
	for _, f := range files {
		a, err := parser.ParseFile(token.NewFileSet(), f, nil, parser.ImportsOnly)
		if err != nil {
			t.Fatal(err)
		}
		for _, i := range a.Imports {
			path, err := strconv.Unquote(i.Path.Value)
			if err != nil {
				t.Fatal(err)
			}
			out = append(out, path)
		}
	}
	return out
}

// R6, R4: a layer calls the layers that the map gives it, and of the library what may be.
func TestImports(t *testing.T) {
	for _, c := range calls {
		own := append(strings.Fields(c.below), "api")
		for _, path := range imports(t, c.layer) {
			name, ours := strings.CutPrefix(path, "picklock/")
			if ours && !slices.Contains(own, name) || !ours && !slices.Contains(strings.Fields(library), path) {
				t.Errorf("%s imports %s", c.layer, path)
			}
		}
	}
}

// Words: the errors have their numbers, and tell them.
func TestErrors(t *testing.T) {
	all := []api.Errno{api.OK, api.ErrArg, api.ErrShort, api.ErrForm, api.ErrSum, api.ErrSize, api.ErrLarge, api.ErrMapper, api.ErrCode, api.ErrFull, api.ErrNone, api.ErrHalt, api.ErrSyntax, api.ErrText, api.ErrKind}
	for i, e := range all {
		if int(e) != i || e.Error() != "error "+strconv.Itoa(i) {
			t.Errorf("%d: %d, %q", i, int(e), e.Error())
		}
	}
}

// Words: the limits, the consoles, and types that can be compared.
func TestLimits(t *testing.T) {
	got := [...]int{api.MaxFile, api.MaxCheats, api.MaxLine, api.MaxList, api.MaxFrames, api.NES, api.GB}
	if got != [...]int{16777216, 128, 4194304, 256, 64, 1, 2} {
		t.Error(got)
	}
	if (api.Poke{A: 1, V: 2}) == (api.Poke{A: 1, V: 3}) {
		t.Error("pokes that differ are the same")
	}
	if (api.Cheat{A: 1, V: 2, Compare: -1, Bank: 4}) == (api.Cheat{A: 1, V: 2, Compare: -1, Bank: 5}) {
		t.Error("cheats that differ are the same")
	}
}
