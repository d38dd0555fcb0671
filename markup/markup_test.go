package markup

import "testing"

// behindAll is the state behind a page.
func behindAll(page string) State {
	now := Begin()
	for at := range len(page) {
		now = now.Behind(page[at])
	}
	return now
}

func TestKindsOfAttributes(t *testing.T) {
	kinds := map[string]int{
		"href": link, "src": link, "action": link, "HREF": link, "Src": link,
		"style": barred, "STYLE": barred, "on": barred, "onclick": barred, "OnX": barred, "onabcdefghijk": barred,
		"o": plain, "no": plain, "hre": plain, "hrefs": plain, "xhref": plain, "actionsx": plain, "styles": plain,
		"data-href": plain, "hrefhrefhref": plain, "\x00": plain, "href\x00": plain, "\xef": plain, "\u017frc": plain,
	}
	for name, kind := range kinds {
		for _, ahead := range []string{"<a ", "<a/", "<a b=c ", "<a href='x'", "<a href ", "<script style=\"\""} {
			for _, behind := range []string{" ", "=", " = ", "='", "=\"", "='x>=", " =\n\""} {
				page := ahead + name + behind
				if s := behindAll(page); s.kind != kind {
					t.Errorf("behind %q the kind is %d, want %d", page, s.kind, kind)
				}
			}
		}
	}
}

// TestNothingElseCounts: pages behind which all goes on alike end in one state.
func TestNothingElseCounts(t *testing.T) {
	for _, pages := range [][]string{
		{"", "a", "<a>", "<a href=x>", "</a>", "</a href='>", "<!---->", "<!x>", "<title></title>", "<script>'\\</SCRIPT>"},
		{"<a ", "<b/", "<i href='x'", "<i style=x ", "<i onclick/", "<scriptx "},
		{"<script ", "<SCRIPT/", "<script href='x'", "<script src=x "},
		{"<a b", "<b c B", "<a/href/b", "<a href=x b", "<a href b"},
		{"<a 123456789", "<a 1234567890", "<b 123456789X"},
		{"<a href=", "<a src =\n", "<a action= "},
		{"<a href=x", "<a style=xy", "<a href b=x", "<a onclick=x"},
		{"<script>", "<Script src='x'>", "<script>''", "<script>'\\''", "<script></scripts", "<script>/**/", "<script>//\n"},
		{"<title>", "<title>a", "<title></x", "<title>&<b>"},
		{"&", "a&", "&&", "&a;&", "&a", "&#x4", "<i>&Z9", "<&"},
		{"&;", "&a ", "& ", "&<b>", "&\x00", "&\xc3", "a;#"},
		{"<a b='&", "<a B ='x&#1"},
		{"<title>&", "<title><&", "<title></title><title>x&lt"},
		{"<a href='", "<a src='", "<a action = '"},
		{"<a href='x", "<a href='%zz", "<a href='%41", "<a href='%4 ", "<a href='x&;\x00\xff"},
		{"<a href='/", "<a href='?x", "<a href='#", "<a href=':", "<a href='x:y", "<a href='x/:", "<a href='/%41"},
		{"<a href='%", "<a href='%%", "<a href='%4%", "<a href='x%z%"},
		{"<a b='", "<a b='x", "<a b='%4", "<a b='/", "<a c='::%"},
		{"<a style='", "<a onx='%4", "<a style='x/:"},
		{"<script>'\\", "<script>'\\\\\\", "<script>'\\x\\", "<script>'\\u004\\"},
		{"<script>'\\x", "<script>'\\u00", "<script>'\\u41"},
		{"<script>'\\x4", "<script>'\\u004"},
		{"<script>'", "<script>'\\x41", "<script>'\\u0041", "<script>'\\n", "<script>'\\xg", "<script>'\\u{", "<script>'\\X", "<script>'\\4", "<script>'\\\\x", "<script>'\\\n"},
		{"<style>'\\4", "<style>'x\\f", "<style>'\\A", "<style>'\\4\\4"},
		{"<style>'", "<style>'\\41 ", "<style>'\\000041", "<style>'\\g", "<style>'\\4g", "<style>'\\4\r", "<style>'\\000041 ", "<style>'\\\\4", "<style>'\\x4", "<style>'\\\n"},
		{"<style>", "<style>'\\4\n", "<style>'\\4'"},
	} {
		for _, page := range pages {
			if s := behindAll(page); s != behindAll(pages[0]) {
				t.Errorf("behind %q: %+v, behind %q: %+v", page, s, pages[0], behindAll(pages[0]))
			}
		}
	}
}

// TestWhatCounts: pages behind which something goes on otherwise.
func TestWhatCounts(t *testing.T) {
	for _, pages := range [][2]string{
		{"<a", "<b"}, {"<a b", "<a c"}, {"<a ", "<title "}, {"<title ", "<textarea "}, {"<a href=", "<a style="}, {"<a b='", "<a src='"},
		{"<title>", "<textarea>"}, {"<title>", "<title><"}, {"<title></", "<title></t"}, {"<title></title", "<title></titl"}, {"<script>'", "<script>'\\"},
		{"", "&"}, {"<a b='", "<a b='&"}, {"<title>", "<title>&"}, {"<a href='", "<a href='&"},
		{"<a href='", "<a href='x"}, {"<a href='", "<a href='/"}, {"<a href='x", "<a href='x:"}, {"<a href='x", "<a href='%"}, {"<a href='x%", "<a href='x%4"},
		{"<script>'\\", "<script>'\\x"}, {"<script>'\\x", "<script>'\\x4"}, {"<script>'\\x4", "<script>'\\x41"}, {"<script>'\\u", "<script>'\\x"}, {"<script>`", "<script>`\\u004"},
		{"<style>'\\", "<style>'\\4"}, {"<style>'\\4", "<style>'\\44"}, {"<style>'\\44444", "<style>'\\444444"}, {"<style>'\\4", "<style>'\\4 "},
	} {
		if behindAll(pages[0]) == behindAll(pages[1]) {
			t.Errorf("behind %q and %q: one state, %+v", pages[0], pages[1], behindAll(pages[0]))
		}
	}
}
