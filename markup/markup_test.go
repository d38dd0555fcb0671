package markup

import (
	"testing"

	"stencil/api"
)

// behindAll is the state behind a page.
func behindAll(page string) state {
	now := state{mode: api.Text}
	for at := range len(page) {
		now = now.behind(page[at])
	}
	return now
}

func TestKindsOfAttributes(t *testing.T) {
	kinds := map[string]int{
		"href": link, "src": link, "action": link, "HREF": link, "Src": link,
		"style": barred, "STYLE": barred, "on": barred, "onclick": barred, "OnX": barred, "onabcdefghijk": barred,
		"o": plain, "no": plain, "hre": plain, "hrefs": plain, "xhref": plain, "actionsx": plain, "styles": plain,
		"data-href": plain, "hrefhrefhref": plain, "\x00": plain, "href\x00": plain, "\xef": plain, "\u017frc": plain,
	}
	for name, kind := range kinds {
		for _, ahead := range []string{"<a ", "<a/", "<a b=c ", "<a href='x'", "<a href ", "<script style=\"\""} {
			for _, behind := range []string{" ", "=", " = ", "='", "=\"", "='x>=", " =\n\""} {
				page := ahead + name + behind
				if s := behindAll(page); s.kind != kind {
					t.Errorf("behind %q the kind is %d, want %d", page, s.kind, kind)
				}
			}
		}
	}
}

// TestNothingElseCounts: pages behind which all goes on alike end in one state.
func TestNothingElseCounts(t *testing.T) {
	for _, pages := range [][]string{
		{"", "a", "<a>", "<a href=x>", "</a>", "</a href='>", "<!---->", "<!x>", "<title></title>", "<script>'\\</SCRIPT>"},
		{"<a ", "<b/", "<i href='x'", "<i style=x ", "<i onclick/", "<scriptx "},
		{"<script ", "<SCRIPT/", "<script href='x'", "<script src=x "},
		{"<a b", "<b c B", "<a/href/b", "<a href=x b", "<a href b"},
		{"<a 123456789", "<a 1234567890", "<b 123456789X"},
		{"<a href=", "<a src =\n", "<a action= "},
		{"<a href=x", "<a style=xy", "<a href b=x", "<a onclick=x"},
		{"<script>", "<Script src='x'>", "<script>''", "<script>'\\''", "<script></scripts", "<script>/**/", "<script>//\n"},
		{"<title>", "<title>a", "<title></x", "<title>&<b>"},
	} {
		for _, page := range pages {
			if s := behindAll(page); s != behindAll(pages[0]) {
				t.Errorf("behind %q: %+v, behind %q: %+v", page, s, pages[0], behindAll(pages[0]))
			}
		}
	}
}

// TestWhatCounts: pages behind which something goes on otherwise.
func TestWhatCounts(t *testing.T) {
	for _, pages := range [][2]string{
		{"<a", "<b"}, {"<a b", "<a c"}, {"<a ", "<title "}, {"<title ", "<textarea "}, {"<a href=", "<a style="}, {"<a b='", "<a src='"},
		{"<title>", "<textarea>"}, {"<title>", "<title><"}, {"<title></", "<title></t"}, {"<title></title", "<title></titl"}, {"<script>'", "<script>'\\"},
	} {
		if behindAll(pages[0]) == behindAll(pages[1]) {
			t.Errorf("behind %q and %q: one state, %+v", pages[0], pages[1], behindAll(pages[0]))
		}
	}
}
