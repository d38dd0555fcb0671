package stencil_test

import (
	"slices"
	"strconv"
	"strings"
	"testing"
	"unsafe"

	"stencil/api"
	"stencil/stencil"
)

// partialsOf are partials: names and texts by turns.
func partialsOf(namesAndTexts []string) []api.Partial {
	var partials []api.Partial
	for i := 0; i < len(namesAndTexts); i += 2 {
		partials = append(partials, api.Partial{Name: namesAndTexts[i], Text: namesAndTexts[i+1]})
	}
	return partials
}

func wantTaken(t *testing.T, text string, partials ...string) {
	t.Helper()
	if made, fault := stencil.Compile(text, partialsOf(partials)); made == nil || fault != (api.Fault{}) {
		t.Errorf("P6: Compile(%q, %q): %+v", text, partials, fault)
	}
}

func wantFault(t *testing.T, want api.Fault, text string, partials ...string) {
	t.Helper()
	if made, fault := stencil.Compile(text, partialsOf(partials)); made != nil || fault != want {
		t.Errorf("P6: Compile(%q, %q): %t, %+v, want %+v", text, partials, made != nil, fault, want)
	}
}

func slipAt(kind int, where string, at int) api.Fault {
	return api.Fault{Code: api.ErrSyntax, Kind: kind, Where: where, At: at}
}

func wrongAt(kind int, where string, at int) api.Fault {
	return api.Fault{Code: api.ErrContext, Kind: kind, Where: where, At: at}
}

// wantWrong: that this is wrong at a byte of a text, and of a partial too that
// is gone through from the text's beginning (a partial's own end is not wrong).
func wantWrong(t *testing.T, kind, at int, text string) {
	t.Helper()
	wantFault(t, wrongAt(kind, "", at), text)
	if kind != api.End {
		wantFault(t, wrongAt(kind, "p", at), "<b>{{>q}}</b>", "z", "<{{a}}", "p", text, "q", "{{>p}}")
	}
}

func TestP6Args(t *testing.T) {
	arg := api.Fault{Code: api.ErrArg}
	for _, name := range []string{"", " ", "A", "a b", "a.b", ".", "abcdefghi", "\x00", "a\xff", "\u00e4", "a-b", "a "} {
		wantFault(t, arg, "", name, "")
		wantFault(t, arg, "{{", "p", "{{/a}}", name, "")
		wantFault(t, arg, strings.Repeat("a", 2001), name, "")
	}
	wantFault(t, arg, "", "p", "", "p", "")
	wantFault(t, arg, "{{>p}}", "p", "{{", "q", "", "r", "", "p", "{{")
	six := []string{"a", "", "b", "", "c", "", "d", "", "_", "", "abcdefg9", ""}
	wantTaken(t, "", six...)
	wantFault(t, arg, "", append(six, "f", "")...)
	wantFault(t, slipAt(api.Unclosed, "", 0), "{{", six...)
	if made, fault := stencil.Compile("{{a}}", []api.Partial{}); made == nil || fault != (api.Fault{}) {
		t.Errorf("P6: Compile with an empty list: %+v", fault)
	}
	if _, fault := stencil.Compile("{{a}}", make([]api.Partial, 1000000)); fault != arg {
		t.Errorf("P6: Compile with a million partials: %+v", fault)
	}
}

// TestP6Slips: each slip, in the text, in a partial that is named, and in one
// that is not, and each ahead of all that a state makes wrong.
func TestP6Slips(t *testing.T) {
	for _, c := range []struct {
		text     string
		kind, at int
	}{
		{strings.Repeat("a", 2001), api.TooLong, 0}, {"{{" + strings.Repeat("{{A}}", 500), api.TooLong, 0},
		{"{{", api.Unclosed, 0}, {"x{{a}", api.Unclosed, 1}, {"{{#a}}{{! ", api.Unclosed, 6}, {"{{=<% %>=}}<%a}}", api.Unclosed, 11}, {"{{a\xff\x00", api.Unclosed, 0},
		{"{{}}", api.BadName, 0}, {"{{ \n}}", api.BadName, 0}, {"x{{A}}", api.BadName, 1}, {"{{a}}{{\xff}}", api.BadName, 5}, {"{{\x00}}", api.BadName, 0}, {"{{a..b}}", api.BadName, 0}, {"{{abcdefghi}}", api.BadName, 0}, {"{{a.b.c.d.e}}", api.BadName, 0}, {"{{{a}}}", api.BadName, 0},
		{"{{#}}", api.BadName, 0}, {"{{^a b}}", api.BadName, 0}, {"{{/A}}", api.BadName, 0}, {"{{>}}", api.BadName, 0}, {"{{>a.b}}", api.BadName, 0}, {"{{>.}}", api.BadName, 0}, {"{{# # a}}", api.BadName, 0},
		{"{{=}}", api.BadDelims, 0}, {"x{{= a =}}", api.BadDelims, 1}, {"{{=a b}}", api.BadDelims, 0}, {"{{=a b c=}}", api.BadDelims, 0}, {"{{=abcd a=}}", api.BadDelims, 0}, {"{{=a abcd=}}", api.BadDelims, 0}, {"{{=a= b=}}", api.BadDelims, 0}, {"{{=a\x00b=}}", api.BadDelims, 0},
		{"{{/a}}", api.Stray, 0}, {"x{{#a}}{{/a}}{{/a}}", api.Stray, 13}, {"{{#a}}{{/b}}", api.Mismatch, 6}, {"{{^a.b}}{{/a}}", api.Mismatch, 8}, {"{{#a}}{{#b}}{{/a}}{{/b}}", api.Mismatch, 12},
		{"{{#a}}", api.Open, 0}, {"x{{#a}}{{^b}}{{/b}}", api.Open, 1}, {"{{#a}}{{^b}}y", api.Open, 6}, {strings.Repeat("{{#a}}", 7), api.Deep, 36}, {strings.Repeat("{{^.}}", 6) + "{{#}}", api.BadName, 36},
	} {
		wantFault(t, slipAt(c.kind, "", c.at), c.text)
		wantFault(t, slipAt(c.kind, "", c.at), c.text, "p", "{{")
		wantFault(t, slipAt(c.kind, "p", c.at), "{{>p}}", "p", c.text)
		wantFault(t, slipAt(c.kind, "p_1", c.at), "<p {{a}}", "q", "<", "p_1", c.text, "r", "{{}}")
		if c.kind != api.TooLong {
			wantFault(t, slipAt(c.kind, "", c.at), c.text[:c.at]+c.text[c.at:], "p", "")
			wantFault(t, slipAt(c.kind, "", c.at+9), "<p {{a}}>"+c.text)
		}
	}
}

func TestP6Taken(t *testing.T) {
	for _, text := range []string{
		"", "a", "}}", "{ {", "{{a}}", "{{ a.b_1.c.abcdefgh\t}}", "{{.}}", "{{! any < thing {{ }}", "{{#a}}{{/a}}", "{{^ a.b }}x{{/\na.b}}", "{{#.}}{{#.}}{{/.}}{{/.}}",
		"{{>p}}", "{{> none }}", "{{=<% %>=}}<%a%>{{A}}<%={{ }}=%>{{a}}", "{{=| |=}}|a||#b||/b|", "{{={ }=}}{a}", "{{=\xff \x00=}}\xffa\x00", strings.Repeat("a", 2000), "\x00\x7f\x80\xff{{a}}",
		strings.Repeat("{{#a}}", 6) + strings.Repeat("{{/a}}{{^a}}", 20) + strings.Repeat("{{/a}}", 6),
	} {
		wantTaken(t, text)
		wantTaken(t, "<b>{{>p}}</b>", "p", text)
	}
}

// TestP6Alone sees by the state what is left out with a tag that stands alone:
// a newline in a string of a script ends it, a blank in a tag's name does.
func TestP6Alone(t *testing.T) {
	for _, tag := range []string{"{{!c}}", "{{#b}}\n{{/b}}", "{{>none}}", "{{=<< >>=}}\n<<={{ }}=>>", "{{^b}}\r\n\t{{/b}} \r"} {
		wantTaken(t, "<script>'{{>p}}'</script>", "p", tag+"\n{{a}}")
		wantTaken(t, "<script>'{{>p}}'</script>", "p", " \t"+tag+" \n{{a}}")
		wantTaken(t, "<a{{>p}}='{{a}}'>", "p", " "+tag+"\n b")
		if !strings.Contains(tag, "\n") {
			wantFault(t, wrongAt(api.HolePlace, "p", len(tag)+2), "<script>'{{>p}}'</script>", "p", "x"+tag+"\n{{a}}")
		}
		wantFault(t, wrongAt(api.HolePlace, "p", len(tag)+2), "<script>'{{>p}}'</script>", "p", tag+"\n\n{{a}}")
		wantFault(t, wrongAt(api.HolePlace, "p", len(tag)+2), "<script>'{{>p}}'</script>", "p", "\n"+tag+"\n{{a}}")
		wantFault(t, wrongAt(api.HolePlace, "p", len(tag)+6), "<script>'{{>p}}'</script>", "p", tag+"{{a}}\n{{a}}")
	}
	wantFault(t, wrongAt(api.HolePlace, "p", 6), "<script>'{{>p}}'</script>", "p", "{{a}}\n{{a}}")
	wantFault(t, wrongAt(api.Branch, "p", 0), "<a href='{{>p}}'>", "p", "{{#a}} {{/a}}\n")
	wantFault(t, wrongAt(api.Scheme, "p", 12), "<a href='{{>p}}'>", "p", "{{a}} \n{{!}}:")
	wantTaken(t, "<a href='{{>p}}'>", "p", "{{#a}} \n {{/a}}\n{{a}}")
}

// TestP7EachMode: a hole in each mode, and each mode at the end and behind a body.
func TestP7EachMode(t *testing.T) {
	open := []int{api.Text, api.Soft, api.Double, api.Single, api.JsDouble, api.JsSingle, api.CsDouble, api.CsSingle}
	for _, one := range table {
		if !slices.Contains(open, one.mode) {
			wantWrong(t, api.HolePlace, len(one.ahead), one.ahead+"{{a}}")
			wantWrong(t, api.HolePlace, len(one.ahead)+5, one.ahead+"{{!}}{{a}}{{a}}"+"<p {{a}}")
		}
		if one.mode != api.Text {
			wantWrong(t, api.End, len(one.ahead), one.ahead)
			wantWrong(t, api.Branch, 1, "x{{#a}}"+one.ahead+"{{/a}}")
			wantWrong(t, api.Branch, 1, "x{{^a}}"+one.ahead+"{{/a}}<p {{a}}")
		}
		if one.mode != api.Text && slices.Contains(open, one.mode) {
			wantWrong(t, api.End, len(one.ahead)+5, one.ahead+"{{a}}")
			wantWrong(t, api.End, len(one.ahead)+22, one.ahead+"{{#a}}{{a}}{{/a}}{{b}}")
		}
		wantTaken(t, "{{>p}}", "p", one.ahead+"{{>p}}")
	}
}

func TestP7Attributes(t *testing.T) {
	for _, name := range []string{"style", "STYLE", "on", "onclick", "OnX", "on\xff", "onabcdefghijkl", "on:x"} {
		for _, quote := range []string{`"`, "'", " =\n '"} {
			ahead := "<a " + name + "=" + quote
			if quote[0] == ' ' {
				ahead = "<a " + name + quote
			}
			wantWrong(t, api.HoleAttr, len(ahead), ahead+"{{a}}"+quote+">")
			wantWrong(t, api.HoleAttr, len(ahead)+2, ahead+"x&{{a}}")
			wantWrong(t, api.HoleAttr, len(ahead)+1, ahead+"%{{a}}:")
		}
		wantWrong(t, api.HolePlace, len(name)+4, "<a "+name+"={{a}}>")
		wantTaken(t, "<a "+name+"='x&%:' b='{{a}}'>{{a}}")
	}
	for _, name := range []string{"b", "o", "no", "styles", "xstyle", "styl", "xon", "hrefs", "xhref", "data-src", "actions", "hre", "href\x00", "\u017frc"} {
		wantTaken(t, "<a "+name+"='{{a}}' "+name+"=\"x{{a}}{{b}}:y\"/>")
		wantTaken(t, "<a "+name+"='%{{a}}%4{{a}}:{{a}}'>")
		wantTaken(t, "<a "+name+"='{{#a}}x/{{b}}{{/a}}'>")
	}
}

func TestP7Halfway(t *testing.T) {
	for _, ahead := range []string{
		"&", "x&a", "&#x4", "&Z9#", "a;&&", "<title>&", "<textarea>x&lt", "<a b='&", "<a href=\"x&amp",
		"<title><", "<title></", "<textarea><</texTAREA", "<script>'<", "<script>\"x</script", "<style>'</st", "<style>\"<",
		`<script>'\`, `<script>"\x`, `<script>'\xF`, `<script>'\u`, `<script>"\u12a`, `<script>'\x\`, `<script>'\\\`,
		`<style>'\`, `<style>"\4`, `<style>'\abcdE`, `<style>'\\\`, `<style>'\4\`,
		"<a href='%", "<a SRC=\"x%f", "<a action='%zz%0", "<a href='%%",
	} {
		wantWrong(t, api.HoleMid, len(ahead), ahead+"{{a}}")
		wantWrong(t, api.HoleMid, len(ahead)+5, ahead+"{{!}}{{a}}{{b}}:")
	}
	for _, page := range []string{
		"&{{!}};{{a}}", "& {{a}}", "&a\x00{{a}}", "&\xc3{{a}}", "#a{{a}}", "<i b='&'>{{a}}", "&<i>{{a}}", "<title>& {{a}}</title>",
		"<title></ti {{a}}</title>", "<title><x{{a}}</title>", "<title></title{{!}}>{{a}}", "<script>'</s{{!}}x{{a}}'</script>", "<style>'<>{{a}}'</style>",
		`<script>'\n{{a}}\\{{a}}\x41{{a}}\u0041{{a}}\xg{{a}}\u004g{{a}}\X4{{a}}\4{{a}}'</script>`,
		`<style>'\g{{a}}\\{{a}}\41 {{a}}\4` + "\t" + `{{a}}\000041{{a}}\4x{{a}}\u{{a}}'</style>`,
		"<a href='%41{{a}}%zz{{a}}%4z{{a}}'>", "<a b='%{{a}}%4{{a}}'>", "%{{a}}", "<script>'%{{a}}&{{a}}'</script>",
	} {
		wantTaken(t, page)
		wantTaken(t, "{{>p}}{{>p}}", "p", page)
	}
}

func TestP7Links(t *testing.T) {
	for _, name := range []string{"href", "SRC", "Action"} {
		for _, quote := range []string{`"`, "'"} {
			ahead := "<a b " + name + " = " + quote
			for _, value := range []string{"{{a}}", "{{a}}b{{a}}", "x:{{a}}:", ":{{a}}:", "/{{a}}:", "?{{a}}::", "#{{a}}:", "x/{{a}}:", "{{a}}/:", "{{a}}?:{{a}}", "{{a}}b#{{a}}:", "{{a}}", "x", "x:y:z", "/{{#a}}x:{{b}}{{/a}}:"} {
				wantTaken(t, ahead+value+quote+">")
				wantTaken(t, ahead+value+quote+" b="+quote+"{{a}}:"+quote+name+"="+quote+"x:"+quote+">")
			}
			for _, mixed := range []string{"{{a}}", "x{{a}}", "{{a}}y", "{{a}}{{a}}", "x{{a}}\x00\xff=;,{{b}}", "{{a}}%41&amp;", "{{a}}&", "{{a}}%"} {
				wantWrong(t, api.Scheme, len(ahead+mixed), ahead+mixed+":"+quote+">")
				wantWrong(t, api.Scheme, len(ahead+mixed), ahead+mixed+"::/"+quote+"{{a}}")
			}
		}
	}
	wantTaken(t, "<a href={{!}}x href='{{a}}'>:")
	wantFault(t, wrongAt(api.Scheme, "q", 1), "<a href='{{>p}}{{>q}}'>", "p", "{{a}}", "q", "x:")
	wantWrong(t, api.Scheme, 20, "<a href='{{#a}}{{b}}:{{/a}}'>")
	wantWrong(t, api.Scheme, 26, "<a href='/' src='x{{a}}%4y:{{b}}'>")
}

func TestP7Branches(t *testing.T) {
	for _, c := range []struct{ ahead, body string }{
		{"", "&"}, {"", "<p"}, {"<p", "q"}, {"<p ", "b"}, {"<p b", "c"}, {"<title ", "></title><a "}, {"<title>", "<"}, {"<title><", "/"}, {"<title>", "</title><textarea>"},
		{"<script>'", `\`}, {`<script>'\`, "x"}, {`<script>'\u`, "0"}, {`<script>'\x4`, "1"}, {`<style>'\4`, "4"}, {`<style>'\4`, " "}, {`<style>'\`, "z"},
		{"<a href='", "x"}, {"<a href='", "{{b}}"}, {"<a href='", "/"}, {"<a href='x", "{{b}}"}, {"<a href='x", ":"}, {"<a href='{{b}}", "/"}, {"<a href='x", "%"}, {"<a href='%", "4"},
		{"<a b='", "&"}, {"<a b='&", ";"}, {"<a b=", "c"}, {"<a href='x", "' src='"}, {"<a b='", "' href='"}, {"<a b='", "' style='"}, {"<a b='", `' c="`}, {"<a href=", "x b="},
	} {
		at := len(c.ahead)
		wantWrong(t, api.Branch, at, c.ahead+"{{#a}}"+c.body+"{{/a}}")
		wantWrong(t, api.Branch, at, c.ahead+"{{^a}}"+c.body+"{{/a}}{{#a}}"+c.body+"{{/a}}<p {{a}}")
		wantWrong(t, api.Branch, at+6, c.ahead+"{{#a}}{{#b}}"+c.body+"{{/b}}{{/a}}")
		wantWrong(t, api.Branch, at+24, c.ahead+"{{#a}}{{#b}}{{/b}}{{/a}}{{^c}}"+c.body+"{{/c}}")
	}
	for _, c := range []struct{ ahead, body, behind string }{
		{"", "<p>{{b}}</p>", ""}, {"x", "&amp;", "<p>"}, {"<p", "", ">"}, {"<p ", "b='{{b}}' c d=x ", ">"}, {"<p b", "{{!x}}", ">"}, {"<p", " "[1:], ">"}, {"<p abcdefghi", "j", ">"}, {"<p ", "><a ", ">"}, {"<title ", "></title><TITLE/", "></title>"},
		{"<title>", "x{{b}}</title><title>", "</title>"}, {"<script>'", `\x41{{b}}' + "{{b}}" + '`, "'</script>"}, {"<script>", "'\\''/**/'{{b}}'", "</script>"}, {"<style>", "'{{b}}'", "</style>"},
		{"<a href='/", "x:{{b}}#", "'>"}, {"<a href='x", "y", "'>"}, {"<a href='{{b}}", "x{{b}}", "'>"}, {"<a href='", "' src='", "'>"}, {"<a href='&", "a1", ";'>"}, {"<a href='%", "%", "'>"}, {"<a style='", "x' onclick='", "'>"}, {"<a b=", "c d=", "e>"}, {"<a b=c", "d e=f", ">"},
	} {
		wantTaken(t, c.ahead+"{{#a}}"+c.body+"{{/a}}"+c.behind)
		wantTaken(t, c.ahead+"{{^a}}"+c.body+"{{#b}}"+c.body+"{{/b}}{{/a}}"+c.behind)
		wantTaken(t, "{{>p}}", "p", c.ahead+"{{#a}}"+c.body+"{{/a}}"+c.behind)
	}
}

// TestP7BehindASection: that the state behind a section is that ahead of it,
// also if its body has no end.
func TestP7BehindASection(t *testing.T) {
	wantTaken(t, "{{#a}}{{>p}}<p {{b}}{{/a}}{{c}}", "p", "{{>p}}")
	wantTaken(t, "{{#a}}{{#b}}{{>p}}<p {{b}}{{/b}}{{c}}{{/a}}{{c}}", "p", "x{{>p}}")
	wantWrong(t, api.HolePlace, 20, "{{#a}}{{b}}{{/a}}<p {{a}}")
	wantFault(t, wrongAt(api.HolePlace, "", 27), "{{#a}}{{#b}}{{>p}}{{/b}}<p {{c}}{{/a}}", "p", "{{>p}}")
	wantFault(t, wrongAt(api.Branch, "", 0), "{{#a}}{{#b}}{{>p}}{{/b}}<p {{/a}}", "p", "{{>p}}")
	wantFault(t, wrongAt(api.End, "", 27), "<p {{^a}}{{>p}}>{{b}}{{/a}}", "p", "{{>p}}")
}

func TestP7End(t *testing.T) {
	for _, text := range []string{"<", "x<p", "&", "x&amp", "<p ", "<p a='{{a}}", "<!--", "<title>", "<script>", "<script>'{{a}}'", "</p", "<a href='{{#a}}{{/a}}", "\n<", "<!-- \n\n"} {
		wantWrong(t, api.End, len(text), text)
		wantFault(t, wrongAt(api.End, "", len(text)+6), text+"{{>p}}", "p", "")
		wantFault(t, wrongAt(api.End, "", 6), "{{>p}}", "p", text)
		wantFault(t, wrongAt(api.End, "", len(text)+6), text+"{{!\n}}", "p", "<")
	}
	for _, text := range []string{"&;", "x<p>", "<1", "<p a=>", "</>", "</p >", "<!>", "<!-- - -->", "<title></title>", "<script>'</script>", "<style></style x>"} {
		wantTaken(t, text)
		wantTaken(t, text+"{{>p}}"+text, "p", text)
	}
}

func TestP8Partials(t *testing.T) {
	for _, partials := range [][]string{nil, {"q", "<"}, {"pp", "<", "_p", "{{a}}<"}} {
		wantTaken(t, "a{{>p}}{{a}}<p{{>p}}>{{#a}}{{>p}}{{/a}}", partials...)
	}
	wantTaken(t, "<a {{>p}}x' {{>q}}y' {{>p}}'>{{b}}", "p", "b='{{a}}", "q", "c='{{a}}")
	wantTaken(t, "{{>p}}>{{>p}}>", "p", "{{>q}}' c='{{a}}'", "q", "<i b='{{a}}")
	wantTaken(t, "{{a}}<p {{>p}}>{{>p}}", "p", " ")
	wantTaken(t, "<script>'{{>p}}'</script><style>'{{>p}}'</style><a href='{{>p}}' b='{{>p}}'>{{>p}}", "p", "{{a}}")
	wantTaken(t, "{{#a}}<i{{>p}}{{/a}}", "p", "{{#b}}{{/b}}>")
	wantFault(t, wrongAt(api.HolePlace, "p", 2), "{{>p}}>", "p", "<i{{a}}")
	wantFault(t, wrongAt(api.HolePlace, "", 9), "<i{{>p}}x{{a}}", "p", " b='x' c")
	wantFault(t, wrongAt(api.HoleMid, "q", 0), "{{>p}}", "p", "x&{{>q}};", "q", "{{a}}")
	wantFault(t, wrongAt(api.Scheme, "q", 0), "<a href='{{>p}}{{>q}}'>", "p", "{{a}}", "q", ":")
	wantFault(t, wrongAt(api.Branch, "", 3), "<i {{#a}}{{>p}}{{/a}}>", "p", "b")
	wantTaken(t, "<i {{#a}}{{>p}}{{/a}}>", "p", "b=x ")
}

// TestP8NoEnd: partials that end in no state, and what follows them.
func TestP8NoEnd(t *testing.T) {
	wantTaken(t, "{{>p}}<p {{a}}", "p", "{{>p}}")
	wantTaken(t, "{{>p}}<p {{a}}", "p", "x{{>p}}<p {{a}}")
	wantTaken(t, "<p {{>p}}", "p", "x{{>p}}")
	wantTaken(t, "<p{{>p}}", "p", "x{{>p}}")
	wantTaken(t, "<p{{>p}}{{a}}", "p", "{{>q}}{{a}}", "q", "x{{>r}}{{a}}", "r", "{{>p}}")
	wantTaken(t, "{{>p}}<", "p", "{{>q}}{{>q}}<", "q", "{{a}}{{>q}}")
	wantTaken(t, "{{#a}}{{>p}}<{{/a}}", "p", "{{>p}}")
	wantTaken(t, "{{>p}}", "p", "{{#a}}x{{>q}}<{{/a}}y", "q", "<b>{{>q}}")
	wantFault(t, wrongAt(api.HolePlace, "p", 2), "{{>p}}", "p", "<i{{a}}{{>p}}")
	wantFault(t, wrongAt(api.HolePlace, "p", 6), "{{#a}}<{{>p}}{{/a}}", "p", "{{#b}}{{c}}{{/b}}{{>p}}")
	wantFault(t, wrongAt(api.Branch, "p", 0), "{{>p}}", "p", "{{#a}}<{{/a}}{{>p}}")
	wantFault(t, wrongAt(api.HolePlace, "", 21), "{{#a}}{{>p}}{{/a}}<p {{a}}", "p", "{{>p}}")
}

// TestP8LedBack: partials that name themselves, or others that lead back, and
// have an end all the same.
func TestP8LedBack(t *testing.T) {
	wantTaken(t, "{{>p}}", "p", "{{#b}}<i>{{>p}}</i>{{/b}}")
	wantTaken(t, "<p {{>p}}>", "p", "b='{{a}}' {{#b}}{{>p}}{{/b}}")
	wantTaken(t, "{{>p}}{{a}}", "p", "{{#b}}{{>q}}{{/b}}x", "q", "<i>{{^c}}{{>p}}{{/c}}</i>{{a}}")
	wantTaken(t, "<a href='x{{>p}}'>", "p", "{{a}}{{#b}}{{>p}}{{/b}}")
	wantTaken(t, "<p {{>p}}>", "p", "{{#a}}{{>p}}{{/a}}><b ")
	wantFault(t, wrongAt(api.End, "", 9), "<p {{>p}}", "p", "{{#a}}b='x' {{>p}}{{/a}}")
	wantFault(t, wrongAt(api.Branch, "p", 0), "{{>p}}", "p", "{{#a}}<p {{>p}}{{/a}}")
	wantFault(t, wrongAt(api.Branch, "p", 7), "{{>p}}", "p", "<i a='b{{#a}}'>{{>p}}{{/a}}'>")
	wantFault(t, wrongAt(api.HolePlace, "q", 3), "{{>p}}", "p", "{{#b}}{{>q}}{{/b}}", "q", "<p {{a}}>{{>p}}")
	wantFault(t, wrongAt(api.HoleMid, "p", 0), "{{>p}}&{{#a}}{{>p}}{{/a}};", "p", "{{a}}{{#b}}{{>q}}{{/b}}", "q", "{{>p}}")
}

// TestP9First: of several faults the first one that is come to.
func TestP9First(t *testing.T) {
	wantWrong(t, api.HolePlace, 3, "<p {{a}}{{b}}><a href='{{a}}:'>&{{a}}")
	wantWrong(t, api.HoleMid, 1, "&{{a}}<p {{a}}")
	wantWrong(t, api.Scheme, 14, "<a href='{{a}}::'{{b}}")
	wantWrong(t, api.Branch, 0, "{{#a}}<{{/a}}{{#a}}&{{/a}}&{{b}}")
	wantWrong(t, api.Branch, 6, "{{#a}}{{#b}}<p{{/b}}<{{/a}}")
	wantWrong(t, api.HolePlace, 8, "{{#a}}<p{{a}}{{/a}}")
	wantWrong(t, api.HolePlace, 22, "{{#a}}{{#b}}x{{/b}}<p {{b}}{{/a}}")
	partials := []string{"p", "&{{a}}", "q", "<{{a}}", "r", "{{>q}}{{>p}}"}
	wantFault(t, wrongAt(api.HoleMid, "p", 1), "{{>p}}{{>q}}", partials...)
	wantFault(t, wrongAt(api.HolePlace, "q", 1), "{{>q}}{{>p}}", partials...)
	wantFault(t, wrongAt(api.HolePlace, "q", 1), "{{#b}}{{>r}}{{/b}}{{>p}}", partials...)
	wantFault(t, wrongAt(api.HolePlace, "", 2), "<p{{b}}{{>r}}", partials...)
	wantFault(t, wrongAt(api.HolePlace, "p", 1), "<p{{>p}}{{b}}", partials...)
	wantTaken(t, "x", partials...)
	// p is gone through again where it is named from another state, and only there.
	wantFault(t, wrongAt(api.HolePlace, "p", 0), "{{>p}}{{>p}}<{{>p}}{{b}}", "p", "{{a}}")
	wantFault(t, wrongAt(api.HolePlace, "", 13), "{{>p}}{{>p}}<{{b}}{{>p}}", "p", "{{a}}")
	// What is wrong in p is found where p names itself, ahead of the rest of it.
	wantFault(t, wrongAt(api.HolePlace, "p", 13), "{{>p}}", "p", "{{#b}}<{{>p}}{{a}}{{/b}}")
	wantFault(t, wrongAt(api.HolePlace, "p", 0), "<i {{#b}}>{{>p}}<i {{>p}}{{/b}}", "p", "{{a}}")
}

// TestP1CompileOfOddTexts: that all calls end, with an answer that is whole.
func TestP1CompileOfOddTexts(t *testing.T) {
	odd := append(oddPages(), "{{", "{{=", strings.Repeat("{{", 1000), strings.Repeat("{{#a}}{{/a}}", 166), strings.Repeat("{{>p}}", 333), strings.Repeat("{{a}}", 400), strings.Repeat("<a {{>p}}", 222))
	for n := range 256 {
		b := string([]byte{byte(n)})
		odd = append(odd, "{{"+b+"}}", "{{="+b+" "+b+"=}}"+b+"a"+b, "{{#a}}"+b+"{{/a}}", "<a href='{{a}}"+b, "{{>p}}"+b, "{{"+b)
	}
	for _, text := range odd {
		for _, partials := range [][]string{nil, {"p", text}, {"p", "{{>p}}" + text}, {"p", text + "{{>q}}", "q", "{{>p}}"}, {"p", "{{#a}}{{>p}}{{/a}}", text, text}} {
			made, fault := stencil.Compile(text, partialsOf(partials))
			if (made == nil) != (fault.Code != api.OK) || fault.Code == api.OK && fault != (api.Fault{}) {
				t.Errorf("P6: Compile(%q, %q): %t, %+v", text, partials, made != nil, fault)
			}
		}
	}
}

// TestP2NothingOfATemplateIsKept writes over what was handed in, behind the call.
func TestP2NothingOfATemplateIsKept(t *testing.T) {
	bytes := [][]byte{[]byte("<p>{{>name}}</p>"), []byte("name"), []byte("&{{a}}")}
	texts := make([]string, len(bytes))
	for i := range bytes {
		texts[i] = unsafe.String(unsafe.SliceData(bytes[i]), len(bytes[i]))
	}
	partials := []api.Partial{{Name: texts[1], Text: texts[2]}, {Name: "q", Text: "{{>name}}"}}[:1]
	_, fault := stencil.Compile(texts[0], partials)
	if string(bytes[0]) != "<p>{{>name}}</p>" || string(bytes[1]) != "name" || string(bytes[2]) != "&{{a}}" || partials[:2][1].Name != "q" {
		t.Errorf("P2: what was handed in is %q, %q", bytes, partials[:2])
	}
	for i := range bytes {
		clear(bytes[i])
	}
	if want := wrongAt(api.HoleMid, "name", 1); fault != want {
		t.Errorf("P2: the fault is %+v, want %+v", fault, want)
	}
}

// TestP2CompileAnswersTheSame, whatever was asked ahead.
func TestP2CompileAnswersTheSame(t *testing.T) {
	for n := range 20 {
		text := strings.Repeat("x", n) + "<p {{a}}"
		wantFault(t, wrongAt(api.HolePlace, "", n+3), text)
		wantTaken(t, "{{=<< >>=}}<<a>>")
		wantFault(t, slipAt(api.Stray, "p"+strconv.Itoa(n), 0), "{{a}}", "p"+strconv.Itoa(n), "{{/a}}")
	}
}
