package tags

import (
	"slices"
	"strings"
	"testing"
	"unsafe"

	"stencil/api"
)

func wantParts(t *testing.T, text string, want ...Part) {
	t.Helper()
	parts, slip := Cut(text)
	if slip != (Slip{}) || !slices.Equal(parts, want) {
		t.Errorf("P6: Cut(%q) = %v, %v, want %v", text, parts, slip, want)
	}
}

func wantSlip(t *testing.T, text string, kind, at int) {
	t.Helper()
	parts, slip := Cut(text)
	if parts != nil || slip != (Slip{kind, at}) {
		t.Errorf("P6: Cut(%q) = %v, %v, want the slip %d at %d", text, parts, slip, kind, at)
	}
}

func TestParts(t *testing.T) {
	wantParts(t, "")
	wantParts(t, "a\x00\xff}}", Part{Text, 0, "a\x00\xff}}", 0})
	wantParts(t, "{{a}}", Part{Hole, 0, "a", 0})
	wantParts(t, "x{{ a.b_1 }}y{{.}}", Part{Text, 0, "x", 0}, Part{Hole, 1, "a.b_1", 0}, Part{Text, 12, "y", 0}, Part{Hole, 13, ".", 0})
	wantParts(t, "a{{!x}}b{{! {{ y\n}}c", Part{Text, 0, "a", 0}, Part{Text, 7, "b", 0}, Part{Text, 19, "c", 0})
	wantParts(t, "{{#a}}x{{/a}}y{{^b.c}}{{/ b.c}}", Part{Section, 0, "a", 2}, Part{Text, 6, "x", 0}, Part{End, 7, "a", 0},
		Part{Text, 13, "y", 0}, Part{Turned, 14, "b.c", 5}, Part{End, 22, "b.c", 4})
	wantParts(t, "{{#a}}{{#a}}{{/a}}{{/a}}", Part{Section, 0, "a", 3}, Part{Section, 6, "a", 2}, Part{End, 12, "a", 1}, Part{End, 18, "a", 0})
	wantParts(t, "a{{>p}}b{{> q_9\t}}", Part{Text, 0, "a", 0}, Part{Partial, 1, "p", 0}, Part{Text, 7, "b", 0}, Part{Partial, 8, "q_9", 0})
}

func TestDelims(t *testing.T) {
	wantParts(t, "a{{=<% %>=}}{{b}}<%c%>", Part{Text, 0, "a", 0}, Part{Text, 12, "{{b}}", 0}, Part{Hole, 17, "c", 0})
	wantParts(t, "x{{= | \t\n|| = }}|a|||b||", Part{Text, 0, "x", 0}, Part{Hole, 16, "a", 0}, Part{Hole, 20, "b", 0})
	wantParts(t, "x{{=<% %>=}}<%={{ }}=%>{{a}}", Part{Text, 0, "x", 0}, Part{Hole, 23, "a", 0})
	wantParts(t, "x{{=%% %%=}}%%a%%%%b%%", Part{Text, 0, "x", 0}, Part{Hole, 12, "a", 0}, Part{Hole, 17, "b", 0})
	wantParts(t, "x{{=\x00 \xff=}}\x00a\xff", Part{Text, 0, "x", 0}, Part{Hole, 10, "a", 0})
	wantParts(t, "x{{=\u20ac a=}}\u20acba", Part{Text, 0, "x", 0}, Part{Hole, 12, "b", 0})
	for _, bad := range []string{"=", "==", "= =", "=a=", "=a b", "=a b c=", "=abcd b=", "=a bcde=", "=a= b=", "=a =b=", "== ==", "=a\vb=", "=\u20aca b=", "=a\u00a0b=", "=a b= c"} {
		wantSlip(t, "x{{"+bad+"}}", api.BadDelims, 1)
		wantSlip(t, "x{{\n"+bad+" }}", api.BadDelims, 1)
	}
}

func TestNames(t *testing.T) {
	ordinary := []string{"a", "z", "0", "9", "_", "abcdefgh", "a.b", "a.b.c.d", "0_.9", "abcdefgh.abcdefgh.abcdefgh.abcdefgh"}
	for _, name := range append(ordinary, ".") {
		wantParts(t, "x{{"+name+"}}", Part{Text, 0, "x", 0}, Part{Hole, 1, name, 0})
		wantParts(t, "x{{^ "+name+"}}{{/\n"+name+" }}", Part{Text, 0, "x", 0}, Part{Turned, 1, name, 2}, Part{End, 7 + len(name), name, 1})
		if IsIdentifier(name) != (len(name) <= 8 && !strings.Contains(name, ".")) {
			t.Errorf("P6: IsIdentifier(%q) = %t", name, IsIdentifier(name))
		}
	}
	for _, name := range []string{"", "A", "aZ", "a b", "a\tb", "a-b", "..", "a.", ".a", "a..b", "a.b.c.d.e", "abcdefghi", "a.abcdefghi", "\u00e4", "\xff", "\x00", "a\x00", "&a", "{a", "`", "#a", "a/", "a="} {
		for _, tag := range []string{name, "#" + name, "^ " + name, "/" + name} {
			if tag == "#a" {
				continue
			}
			wantSlip(t, "x{{"+tag+"}}", api.BadName, 1)
		}
		for _, partial := range []string{name, ".", "a.b"} {
			wantSlip(t, "x{{> "+partial+"}}", api.BadName, 1)
		}
		if IsIdentifier(name) {
			t.Errorf("P6: IsIdentifier(%q)", name)
		}
	}
}

// TestEachByteOfAName tries each byte in an identifier.
func TestEachByteOfAName(t *testing.T) {
	for n := range 256 {
		name := "a" + string([]byte{byte(n)})
		if want := strings.IndexByte("abcdefghijklmnopqrstuvwxyz0123456789_", byte(n)) >= 0; IsIdentifier(name) != want {
			t.Errorf("P6: IsIdentifier(%q) = %t", name, !want)
		}
	}
}

// standing: a tag, and what must be around it that the text has no slip.
type standing struct {
	opened, tag, closed string
}

// TestAlone: each tag that is no hole, with what is left out when it stands
// alone, and with what keeps it from that.
func TestAlone(t *testing.T) {
	for _, one := range []standing{
		{"", "{{!c}}", ""}, {"", "{{!\n}}", ""}, {"", "{{=<< >>=}}", ""}, {"", "{{>p}}", ""},
		{"", "{{#a}}", "\n|{{/a}}"}, {"", "{{^a}}", "\n|{{/a}}"}, {"{{#a}}|\n", "{{/a}}", ""},
	} {
		for _, ahead := range []string{"", "x\n", "\n", "\n\n", "x \n"} {
			for _, blank := range []string{"", " ", "\t\f\r ", "  "} {
				for _, behind := range []string{"", "\n", "\ny", "\n\n", "\n \n"} {
					one.leaves(t, ahead+blank, blank+behind, ahead, behind)
					one.stays(t, ahead+"x"+blank, blank+behind)
					one.stays(t, ahead+blank, blank+"y"+behind)
					one.stays(t, ahead+blank+"\v", behind)
					one.stays(t, ahead, "\x00"+behind)
				}
			}
		}
	}
}

// leaves: of what stands around the tag, which stands alone, this stays and the
// newline behind does not.
func (s standing) leaves(t *testing.T, ahead, behind, leftAhead, leftBehind string) {
	t.Helper()
	s.want(t, ahead, behind, leftAhead, strings.TrimPrefix(leftBehind+strings.TrimSuffix(s.closed, "{{/a}}"), "\n"))
}

// stays: all stays that is around the tag, which does not stand alone.
func (s standing) stays(t *testing.T, ahead, behind string) {
	t.Helper()
	s.want(t, ahead, behind, ahead, behind+strings.TrimSuffix(s.closed, "{{/a}}"))
}

func (s standing) want(t *testing.T, ahead, behind, leftAhead, leftBehind string) {
	t.Helper()
	text := s.opened + ahead + s.tag + behind + s.closed
	parts, slip := Cut(text)
	if slip != (Slip{}) {
		t.Fatalf("P6: Cut(%q): %v", text, slip)
	}
	var texts []string
	for _, part := range parts {
		if part.Kind == Text {
			texts = append(texts, part.Text)
		}
	}
	want := []string{strings.TrimPrefix(s.opened, "{{#a}}") + leftAhead, leftBehind}
	want = slices.DeleteFunc(want, func(text string) bool { return text == "" })
	if !slices.Equal(texts, want) {
		t.Errorf("P6: Cut(%q) leaves %q, want %q", text, texts, want)
	}
}

func TestAloneOrNot(t *testing.T) {
	wantParts(t, "x\n {{a}} \ny", Part{Text, 0, "x\n ", 0}, Part{Hole, 3, "a", 0}, Part{Text, 8, " \ny", 0})
	wantParts(t, "{{a}}\n", Part{Hole, 0, "a", 0}, Part{Text, 5, "\n", 0})
	wantParts(t, " {{#a}} \n\tx\n {{/a}}\r\n y", Part{Section, 1, "a", 2}, Part{Text, 9, "\tx\n", 0}, Part{End, 13, "a", 0}, Part{Text, 21, " y", 0})
	wantParts(t, "{{#a}}\n{{/a}}", Part{Section, 0, "a", 1}, Part{End, 7, "a", 0})
	wantParts(t, "{{#a}}\n\n{{/a}}\n", Part{Section, 0, "a", 2}, Part{Text, 7, "\n", 0}, Part{End, 8, "a", 0})
	wantParts(t, " {{#a}} {{/a}}\n", Part{Text, 0, " ", 0}, Part{Section, 1, "a", 3}, Part{Text, 7, " ", 0}, Part{End, 8, "a", 1}, Part{Text, 14, "\n", 0})
	wantParts(t, "{{!\n}} {{!}}\n", Part{Text, 6, " ", 0}, Part{Text, 12, "\n", 0})
	wantParts(t, "{{!}}\n{{!}}\n\n {{!\n\n}} \n {{a}}", Part{Text, 12, "\n", 0}, Part{Text, 23, " ", 0}, Part{Hole, 24, "a", 0})
	wantParts(t, "{{=| |=}}\n |!|\n|a|", Part{Hole, 15, "a", 0})
}

func TestSlips(t *testing.T) {
	wantParts(t, strings.Repeat("a", 2000), Part{Text, 0, strings.Repeat("a", 2000), 0})
	wantSlip(t, strings.Repeat("a", 2001), api.TooLong, 0)
	wantSlip(t, "{{"+strings.Repeat("a", 3000), api.TooLong, 0)
	wantSlip(t, "{{", api.Unclosed, 0)
	wantSlip(t, "{{!a}", api.Unclosed, 0)
	wantSlip(t, "x{{}", api.Unclosed, 1)
	wantSlip(t, "{{#a}}{{", api.Unclosed, 6)
	wantSlip(t, "{{=a b=}} }}a{{", api.Unclosed, 12)
	wantSlip(t, "{{A}}{{", api.BadName, 0)
	wantSlip(t, "{{{a}}}", api.BadName, 0)
	wantSlip(t, "{{/a}}", api.Stray, 0)
	wantSlip(t, "{{/A}}", api.BadName, 0)
	wantSlip(t, "{{^a}}{{/a}}{{/a}}", api.Stray, 12)
	wantSlip(t, "{{#a}}{{/a.a}}", api.Mismatch, 6)
	wantSlip(t, "{{#a.b}}{{/a}}", api.Mismatch, 8)
	wantSlip(t, "{{#.}}{{/a}}", api.Mismatch, 6)
	wantSlip(t, "{{#a}}{{^b}}{{/a}}", api.Mismatch, 12)
	wantSlip(t, "x{{#a}}", api.Open, 1)
	wantSlip(t, "{{#a}}{{^b}}{{/b}}{{#c}}{{#d}}", api.Open, 24)
	wantSlip(t, "{{#a}}{{^b}}{{/b}}", api.Open, 0)
	six := strings.Repeat("{{#a}}", 6)
	wantSlip(t, six+"{{^a}}", api.Deep, 36)
	wantSlip(t, six+"{{/a}}{{#b}}{{#c}}", api.Deep, 48)
	wantSlip(t, six+"{{#B}}", api.BadName, 36)
	wantSlip(t, six+"{{=}}", api.BadDelims, 36)
	wantSlip(t, six, api.Open, 30)
	if parts, slip := Cut(six + strings.Repeat("{{/a}}{{#a}}", 9) + strings.Repeat("{{/a}}", 6)); slip != (Slip{}) || len(parts) != 30 {
		t.Errorf("P6: six sections: %v", slip)
	}
}

// TestP2PartsAreNewMemory writes over a text that was cut.
func TestP2PartsAreNewMemory(t *testing.T) {
	bytes := []byte("<p>{{a}}{{#b}}x{{/b}}{{>p}}")
	parts, _ := Cut(unsafe.String(unsafe.SliceData(bytes), len(bytes)))
	clear(bytes)
	want := []Part{{Text, 0, "<p>", 0}, {Hole, 3, "a", 0}, {Section, 8, "b", 4}, {Text, 14, "x", 0}, {End, 15, "b", 2}, {Partial, 21, "p", 0}}
	if !slices.Equal(parts, want) {
		t.Errorf("P2: parts are kept in the text: %v", parts)
	}
}
