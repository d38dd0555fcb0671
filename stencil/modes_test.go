package stencil_test

import (
	"slices"
	"strings"
	"testing"
	"unsafe"

	"stencil/api"
	"stencil/stencil"
)

const (
	blanks  = "\t\n\f\r "
	letters = "abcdefghijklmnopqrstuvwxyzABCDEFGHIJKLMNOPQRSTUVWXYZ"
)

// entry: bytes and the mode to which they lead.
type entry struct {
	bytes string
	to    int
}

// row: a mode of the document's table, a page that ends in it, and where each
// byte leads from it.
type row struct {
	mode    int
	ahead   string
	entries []entry
	other   int // where any other byte leads; or, below 0, in which mode it is read
}

var table = []row{
	{1, "a", []entry{{"<", 2}}, 1},
	{2, "a<", []entry{{letters, 3}, {"/", 11}, {"!", 13}}, -1},
	{3, "<b", []entry{{blanks + "/", 4}, {">", 1}}, 3},
	{4, "<b ", []entry{{blanks + "/", 4}, {">", 1}}, 5},
	{5, "<b c", []entry{{blanks, 6}, {"=", 7}, {"/", 4}, {">", 1}}, 5},
	{6, "<b c ", []entry{{blanks, 6}, {"=", 7}, {"/", 4}, {">", 1}}, 5},
	{7, "<b c=", []entry{{blanks, 7}, {`"`, 8}, {"'", 9}, {">", 1}}, 10},
	{8, `<b c="`, []entry{{`"`, 4}}, 8},
	{9, "<b c='", []entry{{"'", 4}}, 9},
	{10, "<b c=d", []entry{{blanks, 4}, {">", 1}}, 10},
	{11, "</", []entry{{letters, 12}, {">", 1}}, 18},
	{12, "</b", []entry{{">", 1}}, 12},
	{13, "<!", []entry{{"-", 14}, {">", 1}}, 18},
	{14, "<!-", []entry{{"-", 15}, {">", 1}}, 18},
	{15, "<!--", []entry{{"-", 16}}, 15},
	{16, "<!---", []entry{{"-", 17}}, 15},
	{17, "<!----", []entry{{">", 1}, {"-", 17}}, 15},
	{18, "<!d", []entry{{">", 1}}, 18},
	{19, "<title>", nil, 19},
	{19, "<textarea>", nil, 19},
	{20, "<script>", []entry{{`"`, 21}, {"'", 22}, {"`", 23}, {"/", 24}}, 20},
	{21, `<script>"`, []entry{{"\"\n", 20}}, 21},
	{22, "<script>'", []entry{{"'\n", 20}}, 22},
	{23, "<script>`", []entry{{"`", 20}}, 23},
	{24, "<script>/", []entry{{"/", 25}, {"*", 26}}, -20},
	{25, "<script>//", []entry{{"\n", 20}}, 25},
	{26, "<script>/*", []entry{{"*", 27}}, 26},
	{27, "<script>/**", []entry{{"/", 20}, {"*", 27}}, 26},
	{28, "<style>", []entry{{`"`, 29}, {"'", 30}, {"/", 31}}, 28},
	{29, `<style>"`, []entry{{"\"\n", 28}}, 29},
	{30, "<style>'", []entry{{"'\n", 28}}, 30},
	{31, "<style>/", []entry{{"*", 32}}, -28},
	{32, "<style>/*", []entry{{"*", 33}}, 32},
	{33, "<style>/**", []entry{{"/", 28}, {"*", 33}}, 32},
}

// leadsTo is where the document's table leads from a mode, by a byte.
func leadsTo(mode int, b byte) int {
	one := table[slices.IndexFunc(table, func(r row) bool { return r.mode == mode })]
	for _, e := range one.entries {
		if strings.IndexByte(e.bytes, b) >= 0 {
			return e.to
		}
	}
	if one.other < 0 {
		return leadsTo(-one.other, b)
	}
	return one.other
}

// lastMode is the mode at the end of a page that is not empty.
func lastMode(t *testing.T, page string) int {
	t.Helper()
	modes := stencil.Modes(page)
	if len(modes) != len(page) {
		t.Fatalf("P5: Modes(%q) has %d numbers for %d bytes", page, len(modes), len(page))
	}
	return modes[len(modes)-1]
}

func wantLast(t *testing.T, page string, want int) {
	t.Helper()
	if mode := lastMode(t, page); mode != want {
		t.Errorf("P5: Modes(%q) ends in %d, want %d", page, mode, want)
	}
}

func wantModes(t *testing.T, page string, want ...int) {
	t.Helper()
	if modes := stencil.Modes(page); !slices.Equal(modes, want) {
		t.Errorf("P5: Modes(%q) = %v, want %v", page, modes, want)
	}
}

func TestP5EachModeAndByte(t *testing.T) {
	for _, one := range table {
		wantLast(t, one.ahead, one.mode)
		for n := range 256 {
			wantLast(t, one.ahead+string([]byte{byte(n)}), leadsTo(one.mode, byte(n)))
		}
	}
}

func TestP5Pages(t *testing.T) {
	wantModes(t, `<a b="c">d`, 2, 3, 4, 5, 7, 8, 8, 4, 1, 1)
	wantModes(t, "")
	wantModes(t, "a>b", 1, 1, 1)
	wantModes(t, "<a\nb = 'c'/d>", 2, 3, 4, 5, 6, 7, 7, 9, 9, 4, 4, 5, 1)
	wantModes(t, "<a b=c/d e>", 2, 3, 4, 5, 7, 10, 10, 10, 4, 5, 1)
	wantModes(t, `<a b"c'=>`, 2, 3, 4, 5, 5, 5, 5, 7, 1)
	wantModes(t, "<a =b==>", 2, 3, 4, 5, 5, 7, 10, 1)
	wantModes(t, `<a b="<>'/=">`, 2, 3, 4, 5, 7, 8, 8, 8, 8, 8, 8, 4, 1)
	wantModes(t, "</a b='>'", 2, 11, 12, 12, 12, 12, 12, 1, 1)
	wantModes(t, "<!-->-->", 2, 13, 14, 15, 15, 16, 17, 1)
	wantModes(t, "<!doctype a>b", 2, 13, 18, 18, 18, 18, 18, 18, 18, 18, 18, 1, 1)
	wantModes(t, "<?a>", 2, 1, 1, 1)
}

func TestP5ReadInAnother(t *testing.T) {
	wantModes(t, "<<a", 2, 2, 3)
	wantModes(t, "<<</a", 2, 2, 2, 11, 12)
	wantModes(t, "<\x00<\xc3", 2, 1, 2, 1)
	for _, c := range []struct {
		content string
		want    int
	}{
		{`/"`, api.JsDouble}, {"/'", api.JsSingle}, {"/`", api.JsTick}, {"/\n", api.Code}, {"/a//", api.JsLine}, {"/\\/*", api.JsBlock},
	} {
		wantLast(t, "<script>"+c.content, c.want)
	}
	for _, c := range []struct {
		content string
		want    int
	}{
		{`/"`, api.CsDouble}, {"/'", api.CsSingle}, {"//", api.CsSlash}, {"///", api.CsSlash}, {"//*", api.CsBlock}, {"/a", api.Sheet},
	} {
		wantLast(t, "<style>"+c.content, c.want)
	}
}

func TestP5ContentOfTags(t *testing.T) {
	contents := map[string]int{"title": api.Soft, "textarea": api.Soft, "script": api.Code, "style": api.Sheet}
	for name, want := range contents {
		for _, tag := range []string{"<" + name, "<" + strings.ToUpper(name), "<" + strings.ToUpper(name[:2]) + name[2:]} {
			for _, rest := range []string{"", "/", " ", "\n/ ", " a", " a ", " a=", " a=b", " a='>'", ` a = "</` + name + `>"`, " " + name} {
				wantLast(t, tag+rest+">", want)
				wantLast(t, tag+rest+"><!", want)
			}
		}
		plain := []string{"x" + name, name + "x", name + "xxxxxxxxxx", name + "\x00", name + "\v", name + "\xff", name + "=", name + "<", name[:len(name)-1], "a " + name, "a b=" + name, "a/" + name}
		for _, other := range plain {
			wantLast(t, "<"+other+">", api.Text)
			wantLast(t, "<"+name+"></"+name+"><"+other+">", api.Text)
		}
		wantLast(t, "</"+name+">", api.Text)
		wantLast(t, "<!"+name+">", api.Text)
	}
	wantLast(t, "<\u017fcript>", api.Text)
	wantLast(t, "<\u017ftyle>", api.Text)
}

// elementsOf are the names of the elements in whose content a mode from Soft on is.
func elementsOf(mode int) []string {
	switch {
	case mode == api.Soft:
		return []string{"title", "textarea"}
	case mode < api.Sheet:
		return []string{"script"}
	}
	return []string{"style"}
}

func TestP5EndOfElement(t *testing.T) {
	for _, one := range table {
		if one.mode < api.Soft {
			continue
		}
		_, content, _ := strings.Cut(one.ahead, ">")
		for _, name := range elementsOf(one.mode) {
			for _, end := range []string{name, strings.ToUpper(name), name[:1] + strings.ToUpper(name[1:])} {
				page := "<" + name + ">" + content + "</" + end
				if mode := lastMode(t, page); mode < api.Soft {
					t.Errorf("P5: Modes(%q) ends in %d", page, mode)
				}
				for n := range 256 {
					checkEnd(t, page, byte(n))
				}
			}
		}
	}
}

// checkEnd: that b ends the page's element if it is one of the bytes that do.
func checkEnd(t *testing.T, page string, b byte) {
	t.Helper()
	ended := page + string([]byte{b})
	switch {
	case b == '>':
		wantLast(t, ended, api.Text)
		wantLast(t, ended+"'", api.Text)
	case b == '/' || strings.IndexByte(blanks, b) >= 0:
		wantLast(t, ended, api.EndName)
		wantLast(t, ended+"'\"", api.EndName)
		wantLast(t, ended+"a>", api.Text)
	default:
		if mode := lastMode(t, ended); mode < api.Soft {
			t.Errorf("P5: Modes(%q) ends in %d", ended, mode)
		}
		if mode := lastMode(t, ended+">"); mode < api.Soft {
			t.Errorf("P5: Modes(%q) ends in %d", ended+">", mode)
		}
	}
}

func TestP5AlmostEndOfElement(t *testing.T) {
	for name, mode := range map[string]int{"title": api.Soft, "textarea": api.Soft, "script": api.Code, "style": api.Sheet} {
		tag := "<" + name + ">"
		for _, end := range []string{"<", "</", "<<", "</<", "</" + name[:3], "</" + name, "<a", "</a>", "</" + name + "x", "</" + name + "\v"} {
			wantLast(t, tag+end+"</"+name+">", api.Text)
			wantLast(t, tag+end+"</"+strings.ToUpper(name)+" ", api.EndName)
		}
		for _, other := range []string{"<" + name + ">", "< /" + name + ">", "</ " + name + ">", "</" + name[1:] + ">", "</" + name[:2] + " " + name[2:] + ">", "</" + name + name + ">", "</" + name + "\x00>", "</" + name + "\xa0>", "</" + name + "<>", "<!--" + name + ">", "</body>"} {
			if got := lastMode(t, tag+other); got < api.Soft {
				t.Errorf("P5: Modes(%q) ends in %d", tag+other, got)
			}
		}
		wantLast(t, tag+"</"+name, mode)
		wantLast(t, tag+"</"+name+">"+tag, mode)
		wantLast(t, tag+"</"+name+" "+name+">"+name, api.Text)
	}
	wantLast(t, "<style></\u017ftyle>", api.Sheet)
	wantLast(t, "<title></textarea>", api.Soft)
	wantLast(t, "<textarea></title>", api.Soft)
	wantLast(t, "<script></style>", api.Code)
	wantLast(t, "<style></script>", api.Sheet)
}

func TestP5Escapes(t *testing.T) {
	for _, c := range []struct {
		opened, closing string
		mode, behind    int
	}{
		{`<script>"`, `"`, api.JsDouble, api.Code},
		{`<script>"`, "\n", api.JsDouble, api.Code},
		{"<script>'", "'", api.JsSingle, api.Code},
		{"<script>'", "\n", api.JsSingle, api.Code},
		{"<script>`", "`", api.JsTick, api.Code},
		{`<style>"`, `"`, api.CsDouble, api.Sheet},
		{`<style>"`, "\n", api.CsDouble, api.Sheet},
		{"<style>'", "'", api.CsSingle, api.Sheet},
		{"<style>'", "\n", api.CsSingle, api.Sheet},
	} {
		for n := range 8 {
			want := c.behind
			if n%2 == 1 {
				want = c.mode
			}
			wantLast(t, c.opened+strings.Repeat(`\`, n)+c.closing, want)
			wantLast(t, c.opened+`\`+c.closing+"a"+strings.Repeat(`\`, n)+c.closing, want)
		}
		for n := range 256 {
			escaped := c.opened + `\` + string([]byte{byte(n)})
			wantLast(t, escaped, c.mode)
			wantLast(t, escaped+c.closing, c.behind)
		}
	}
}

func TestP5EscapeAheadOfEnd(t *testing.T) {
	for _, quote := range []string{`"`, "'", "`"} {
		wantLast(t, "<script>"+quote+`\</script>`, api.Text)
		wantLast(t, "<script>"+quote+`</script\`+quote, quoteMode(quote))
		wantLast(t, "<script>"+quote+`</script\>`, quoteMode(quote))
		wantLast(t, "<script>"+quote+`\</script><script>`+quote, quoteMode(quote))
		wantLast(t, "<script>"+quote+`\</script/><script>`+quote+quote, api.Code)
	}
	wantLast(t, `<style>"\</style>`, api.Text)
	wantLast(t, `<style>'\</style `, api.EndName)
}

func quoteMode(quote string) int {
	return map[string]int{`"`: api.JsDouble, "'": api.JsSingle, "`": api.JsTick}[quote]
}

func TestP5NoEscapeElsewhere(t *testing.T) {
	for _, c := range []struct {
		page string
		want int
	}{
		{`\<`, api.TagOpen}, {`<a b="\"`, api.InTag}, {`<a b='\'`, api.InTag}, {`<a b=\>`, api.Text}, {`<!--\-->`, api.Text},
		{`<script>\"`, api.JsDouble}, {"<script>\\`", api.JsTick}, {`<script>\//`, api.JsLine}, {"<script>//\\\n", api.Code}, {`<script>/*\*/`, api.Code}, {`<script>/**\/`, api.JsBlock},
		{`<style>\'`, api.CsSingle}, {`<style>/*\*/`, api.Sheet}, {`<title>\</title>`, api.Text},
	} {
		wantLast(t, c.page, c.want)
	}
}

// oddPages are the odd values, alone and in each mode, and long pages.
func oddPages() []string {
	odd := oddValues()
	for _, one := range table {
		for _, value := range []string{"\x00", "\x00\x00", "\x7f\x80\xff", "é€😀", "\u2028", "\xe2\x80", "\ufeff", strings.Repeat("\x00<\xff\"", 500)} {
			odd = append(odd, one.ahead+value)
		}
	}
	return append(odd, strings.Repeat("<script>'\\'</script>", 20000), strings.Repeat("<a", 100000), "<"+strings.Repeat("a", 200000))
}

func TestP1ModesOfOddPages(t *testing.T) {
	for _, page := range oddPages() {
		modes := stencil.Modes(page)
		if len(modes) != len(page) {
			t.Errorf("P5: %d modes of %d bytes", len(modes), len(page))
		}
		for at, mode := range modes {
			if mode < api.Text || mode > api.CsStar {
				t.Fatalf("P5: Modes(%q) has %d at %d", page, mode, at)
			}
		}
	}
}

func TestP5PagesThatEndInTheMiddle(t *testing.T) {
	const page = "a<b c='d' e=f>&<!--x--><title>&lt;</title ><script>'\\'' + \"</script>/**//</script/><style>'\\27'/*</style><i"
	modes := stencil.Modes(page)
	for n := range len(page) {
		wantModes(t, page[:n], modes[:n]...)
	}
}

// TestP2ModesIsNewMemory writes over an answer, its spare room too, and over a
// page behind the call.
func TestP2ModesIsNewMemory(t *testing.T) {
	for _, text := range []string{"", "a", `<a b="c">d`, "<script>'\\'</script>"} {
		bytes := []byte(text)
		page := unsafe.String(unsafe.SliceData(bytes), len(bytes))
		first := stencil.Modes(page)
		second := stencil.Modes(page)
		want := slices.Clone(first)
		for i := range first[:cap(first)] {
			first[:cap(first)][i] = -1
		}
		if !slices.Equal(second, want) || !slices.Equal(stencil.Modes(page), want) {
			t.Errorf("P2: two lists of Modes(%q) share memory", text)
		}
		if string(bytes) != text {
			t.Errorf("P2: %q was written into: %q", text, bytes)
		}
		for i := range bytes {
			bytes[i] = '<'
		}
		if modes := stencil.Modes(page); slices.Contains(modes, api.Text) || !slices.Equal(second, want) {
			t.Errorf("P2: Modes of %q, asked behind %q: %v", page, text, modes)
		}
	}
}
