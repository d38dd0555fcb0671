package markup

import (
	"strings"
	"testing"

	"stencil/api"
)

// hole is the byte by which pages here tell of a hole.
const hole = "\x01"

// behindHoles is the state behind a page with holes.
func behindHoles(page string) State {
	now := Begin()
	for at := range len(page) {
		if page[at] == hole[0] {
			now = now.BehindHole()
		} else {
			now = now.Behind(page[at])
		}
	}
	return now
}

func wantHole(t *testing.T, page string, as, wrong int) {
	t.Helper()
	if a, w := behindHoles(page).Hole(); a != as || w != wrong {
		t.Errorf("P7: a hole behind %q: %d, %d, want %d, %d", page, a, w, as, wrong)
	}
}

func TestHowHolesAreWritten(t *testing.T) {
	for _, page := range []string{"", "a", "<p>", "a" + hole, "</p>", "&amp;", "<title>", "<textarea>x", "<a b='", `<a b="x/`, "<a b='%", "<a hrefs='" + hole, "<a xon=\"", "<title></titl ", "<1"} {
		wantHole(t, page, api.AsText, 0)
	}
	for _, page := range []string{"<a href='", `<a SRC="`, "<i action = '", "<a b=c href='"} {
		wantHole(t, page, api.AsFirst, 0)
		for _, more := range []string{"x", "/", "?", "#", ":", hole, hole + "x", "x" + hole, "x:" + hole, hole + "/:", hole + ":", "/" + hole, "\x00", "%41", "%zz"} {
			wantHole(t, page+more, api.AsLink, 0)
		}
		wantHole(t, page+`'" href="`, api.AsFirst, 0)
		wantHole(t, page+`x`+hole+`'" c='`, api.AsText, 0)
	}
	for _, page := range []string{"<script>'", `<script>"x`, "<script>'\\n", "<script>'\\x41", "<script>'\\u0041", "<script>'\\xg", "<script>'\\u00g", "<script>'\\\\", "<script>'\\4", "<script>'&" + hole} {
		wantHole(t, page, api.AsJs, 0)
	}
	for _, page := range []string{"<style>'", `<style>"x`, "<style>'\\g", "<style>'\\41 ", "<style>'\\4\t", "<style>'\\000041", "<style>'\\\\", "<style>'\\4x", "<style>'\\x4", "<style>'%" + hole} {
		wantHole(t, page, api.AsCss, 0)
	}
}

func TestWhereNoHoleMayBe(t *testing.T) {
	for _, page := range []string{"<", "<p", "<p ", "<p a", "<p a ", "<p a=", "<p a=b", "</", "</p", "<!", "<!-", "<!--", "<!---", "<!----", "<!x",
		"<script>", "<script>`", "<script>/", "<script>//", "<script>/*", "<script>/**", "<style>", "<style>/", "<style>/*", "<style>/**",
		"<p style=", "<p onx", "<p style=b", "<p href=", "<script>`\\", "<script>`<"} {
		wantHole(t, page, 0, api.HolePlace)
	}
	for _, page := range []string{"<a style='", `<a ON="`, "<a onclick = '&", "<a style='%" + hole, "<a on='<"} {
		wantHole(t, page, 0, api.HoleAttr)
	}
	for _, page := range []string{"&", "&a", "&A9#", "a;&" + hole, "<i>&", "<title>&#", "<a b='&x", "<a href=\"&", "<a href='%", "<a href='%4", "<a href='%zz%f", "<a href='" + hole + "%",
		"<title><", "<title></", "<textarea></texTAREA", "<script>'<", "<script>\"</script", "<style>'</", "<style>\"<" + hole,
		"<script>'\\", "<script>'\\x", "<script>'\\xF", "<script>\"\\u", "<script>'\\u123", "<script>'\\x\\", "<script>'\\x4" + hole,
		"<style>'\\", "<style>'\\4", "<style>\"\\abcdE", "<style>'\\\\\\", "<style>'\\4\\4"} {
		wantHole(t, page, 0, api.HoleMid)
	}
}

// TestBehindHole: that behind a hole the state is that ahead of it, but for a
// link that has not decided.
func TestBehindHole(t *testing.T) {
	for _, page := range []string{"", "&", "a&b", "<", "<p", "<a href", "<a href=", "<a href=x", "<a b='x", "<a style='", "<title><", "<script>'\\x", "<style>'\\4", "<style>'</st",
		"<a href='/", "<a href='x:", "<a href='x?%4", "<a href='#&", "<a href='" + hole, "<a href='x" + hole + ":"} {
		if now := behindHoles(page); now.BehindHole() != now {
			t.Errorf("P7: a hole changes the state behind %q", page)
		}
	}
	for _, pages := range [][2]string{
		{"<a href='" + hole, "<a href='x" + hole}, {"<a href='" + hole + "x", "<a href='x" + hole + "yz"}, {"<a href='" + hole + ":", "<a href='" + hole}, {"<a href='" + hole + "/", "<a href='/"},
		{"<a href='" + hole + ":/", "<a href='/"}, {"<a href='" + hole + "x?:", "<a href='x:"}, {"<a href='%4" + hole + "1", "<a href='" + hole}, {"<a href='x'" + hole, "<a "},
	} {
		if behindHoles(pages[0]) != behindHoles(pages[1]) {
			t.Errorf("P7: behind %q and %q there are two states", pages[0], pages[1])
		}
	}
	for _, pages := range [][2]string{{"<a href='" + hole, "<a href='"}, {"<a href='x" + hole, "<a href='x"}, {"<a href='" + hole, "<a href='/"}, {"<a href='%" + hole, "<a href='" + hole}} {
		if behindHoles(pages[0]) == behindHoles(pages[1]) {
			t.Errorf("P7: behind %q and %q there is one state", pages[0], pages[1])
		}
	}
}

func TestMakesScheme(t *testing.T) {
	for _, page := range []string{"<a href='" + hole, "<a SRC=\"x" + hole, "<i action='" + hole + "x" + hole, "<a href='" + hole + ":", "<a href='%" + hole, "<a href='&" + hole + "amp;"} {
		for n := range 256 {
			if got := behindHoles(page).MakesScheme(byte(n)); got != (n == ':') {
				t.Errorf("P7: behind %q the byte %q makes a scheme: %t", page, byte(n), got)
			}
		}
	}
	for _, page := range []string{"", hole, "<a href='", "<a href='x", "<a href='/" + hole, "<a href='x:" + hole, "<a href='" + hole + "?", "<a href='" + hole + "#", "<a b='" + hole, "<a style='" + hole,
		"<a href='" + hole + "'", "<a href='" + hole + "' b='", "<a href=" + hole, "<a href=x" + hole, "<script>'" + hole} {
		if behindHoles(page).MakesScheme(':') {
			t.Errorf("P7: behind %q a colon makes a scheme", page)
		}
	}
}

// TestEachByteOfWhatGoesOn: by which bytes a reference, a percent and an escape,
// which a hole may not be in, go on or begin anew.
func TestEachByteOfWhatGoesOn(t *testing.T) {
	const hex = "0123456789abcdefABCDEF"
	const letters = "abcdefghijklmnopqrstuvwxyzABCDEFGHIJKLMNOPQRSTUVWXYZ"
	for _, one := range []struct{ page, on string }{
		{"&", letters + "0123456789#&"}, {"<a b='&x", letters + "0123456789#&"}, {"<title>&", letters + "0123456789#&<"},
		{"<a href='%", hex + "%&"}, {"<a href='x%4", "%&"},
		{"<script>'\\", "xu<"}, {"<script>'\\u00", hex + "\\<"}, {"<script>\"\\x", hex + "\\<"}, {"<script>'\\x4", "\\<"},
		{"<style>'\\", hex + "<"}, {"<style>\"\\4444", hex + "\\<"}, {"<style>'\\44444", "\\<"},
	} {
		for n := range 256 {
			page := one.page + string([]byte{byte(n)})
			_, wrong := behindAll(page).Hole()
			halfway := wrong == api.HoleMid
			if want := strings.IndexByte(one.on, byte(n)) >= 0; halfway != want && wrong != api.HolePlace {
				t.Errorf("P7: a hole behind %q: %d", page, wrong)
			}
		}
	}
}
