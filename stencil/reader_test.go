package stencil_test

import (
	"slices"
	"strings"
	"testing"

	"stencil/api"
)

// reader reads a page a second way: it keeps where the tag, the string and the
// content began, and looks back there.
type reader struct {
	page    string
	mode    int
	began   int    // where the mode that one is in was entered
	tag     int    // where the last tag's name begins
	element string // whose content this is
	content int    // where that began
}

func (r *reader) enter(mode, at int) {
	if mode != r.mode {
		r.mode, r.began = mode, at
	}
	if mode == api.TagOpen {
		r.tag = at + 1
	}
}

// tagName is the name of the tag that one is in, as far as it is read.
func (r *reader) tagName() string {
	name := r.page[r.tag:]
	return strings.ToLower(name[:strings.IndexAny(name, blanks+"/>")])
}

// escaped tells if an odd count of backslashes is ahead of a byte of a string.
func (r *reader) escaped(at int) bool {
	count := 0
	for at-1-count > r.began && r.page[at-1-count] == '\\' {
		count++
	}
	return count%2 == 1
}

func (r *reader) read(at int) {
	b := r.page[at]
	if r.mode >= api.Soft && strings.HasSuffix(strings.ToLower(r.page[r.content:at]), "</"+r.element) {
		if b == '>' {
			r.enter(api.Text, at)
			return
		}
		if b == '/' || strings.IndexByte(blanks, b) >= 0 {
			r.enter(api.EndName, at)
			return
		}
	}
	if slices.Contains([]int{api.JsDouble, api.JsSingle, api.JsTick, api.CsDouble, api.CsSingle}, r.mode) && r.escaped(at) {
		return
	}
	to := leadsTo(r.mode, b)
	if r.mode >= api.TagName && r.mode <= api.Bare && to == api.Text {
		name := r.tagName()
		if content := map[string]int{"title": api.Soft, "textarea": api.Soft, "script": api.Code, "style": api.Sheet}[name]; content != 0 {
			r.element, r.content, to = name, at+1, content
		}
	}
	r.enter(to, at)
}

func readAgain(page string) []int {
	r := reader{page: page, mode: api.Text}
	modes := make([]int, len(page))
	for at := range len(page) {
		r.read(at)
		modes[at] = r.mode
	}
	return modes
}

// TestP5SecondReader holds Modes against the second reader on many pages made
// of pieces that matter, in an order from a short rule.
func TestP5SecondReader(t *testing.T) {
	pieces := []string{
		"<", ">", "/", "</", "!", "<!--", "-", "--", "=", `"`, "'", "`", " ", "\n", `\`, "*", "//", "/*", "*/", "a", "B", "é", "\x00", "&",
		"<title>", "<Script>", "<style>", "<textarea>", "title", "script", "style", "textarea", "</title>", "</script>", "</STYLE ", "</textarea/", "<a b=", ` href="`,
	}
	seed := uint32(1)
	for range 20000 {
		var page strings.Builder
		for range 12 {
			seed = seed*1664525 + 1013904223
			page.WriteString(pieces[int(seed>>8)%len(pieces)])
		}
		wantModes(t, page.String(), readAgain(page.String())...)
	}
}
