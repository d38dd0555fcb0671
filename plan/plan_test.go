package plan

import (
	"slices"
	"strings"
	"testing"
	"unsafe"

	"stencil/api"
	"stencil/tags"
)

func parts(namesAndTexts ...string) []api.Partial {
	var all []api.Partial
	for i := 0; i < len(namesAndTexts); i += 2 {
		all = append(all, api.Partial{Name: namesAndTexts[i], Text: namesAndTexts[i+1]})
	}
	return all
}

func mustMake(t *testing.T, text string, partials ...string) Plan {
	t.Helper()
	made, fault := Make(text, parts(partials...))
	if fault != (api.Fault{}) {
		t.Fatalf("Make(%q, %q): %+v", text, partials, fault)
	}
	return made
}

// marksOf are the marks of a visit's parts of one kind.
func marksOf(one Visit, kind int) []int {
	var marks []int
	for i, part := range one.Parts {
		if part.Kind == kind {
			marks = append(marks, one.Marks[i])
		}
	}
	return marks
}

func TestP7HowHolesAreWritten(t *testing.T) {
	for _, c := range []struct {
		text string
		want []int
	}{
		{"{{a}}<p b='{{a}}{{b}}' c=\"x{{.}}\">{{a}}</p><title>{{a}}</title>", []int{1, 1, 1, 1, 1, 1}},
		{"<a href='{{a}}{{a}}x{{a}}/{{a}}' b='{{a}}' src=\"{{a}}\" action='x{{a}}'>{{a}}", []int{2, 3, 3, 3, 1, 2, 3, 1}},
		{"<a href='/{{a}}' src='?{{a}}' action='x:{{a}}' href='{{#a}}{{/a}}{{a}}'>", []int{3, 3, 3, 2}},
		{"<script>'{{a}}' \"{{a}}\" '\\x41{{a}}'</script>{{a}}", []int{4, 4, 4, 1}},
		{"<style>'{{a}}' \"{{a}}\" '\\41 {{a}}'</style>{{a}}", []int{5, 5, 5, 1}},
		{"<a href='/{{#a}}{{a}}{{/a}}'>{{^b}}<i b='{{a}}'>{{a}}</i>{{/b}}", []int{3, 1, 1}},
	} {
		made := mustMake(t, c.text)
		if marks := marksOf(made.Visits[0], tags.Hole); len(made.Visits) != 1 || !slices.Equal(marks, c.want) {
			t.Errorf("P7: the holes of %q are written %v, want %v", c.text, marks, c.want)
		}
	}
}

// TestP8Visits: that a partial is gone through from each state in which it is
// named, and its holes written as each asks.
func TestP8Visits(t *testing.T) {
	made := mustMake(t, "{{>p}}<a href='{{>p}}{{>p}}'>{{>p}}{{>z}}<script>'{{>q}}'</script>", "p", "{{a}}", "z9", "", "q", "{{>p}}{{>p}}")
	if marks := marksOf(made.Visits[0], tags.Partial); !slices.Equal(marks, []int{1, 2, 3, 1, 0, 4}) {
		t.Errorf("P8: the partials' visits are %v", marks)
	}
	var as [][]int
	for _, one := range made.Visits {
		as = append(as, marksOf(one, tags.Hole))
	}
	if !slices.EqualFunc(as, [][]int{nil, {1}, {2}, {3}, nil, {4}}, slices.Equal) {
		t.Errorf("P8: the holes are written %v", as)
	}
	if marks := marksOf(made.Visits[4], tags.Partial); !slices.Equal(marks, []int{5, 5}) {
		t.Errorf("P8: the visits of partials in a partial are %v", marks)
	}
}

func TestP8VisitsOfPartialsThatNameThemselves(t *testing.T) {
	made := mustMake(t, "{{>p}}", "p", "{{#b}}<i>{{>p}}{{a}}</i>{{/b}}")
	if marks := marksOf(made.Visits[1], tags.Partial); len(made.Visits) != 2 || !slices.Equal(marks, []int{1}) {
		t.Errorf("P8: p names the visit %v of itself, of %d", marks, len(made.Visits))
	}
	made = mustMake(t, "<b {{>p}}{{a}}", "p", "x{{>p}}")
	if marks := marksOf(made.Visits[2], tags.Partial); len(made.Visits) < 3 || marks[0] == 0 {
		t.Errorf("P8: p, which has no end, names the visits %v", marks)
	}
	made = mustMake(t, "{{#a}}{{>p}}{{b}}{{/a}}{{c}}", "p", "{{>p}}")
	if marks := marksOf(made.Visits[0], tags.Hole); !slices.Equal(marks, []int{0, 1}) {
		t.Errorf("P8: the holes behind what has no end, and behind the section, are written %v", marks)
	}
}

// TestP8ManyStates: p is named from each name of 3 to 9 bytes that begins with abc
// and goes on with a and b alone, q from all of them but the first: 253 states.
func TestP8ManyStates(t *testing.T) {
	const p = "{{#x}}a{{>p}}{{>q}}{{/x}}{{#x}}b{{>p}}{{>q}}{{/x}}"
	const text = "{{>r}}<abc{{>p}}{{>r}} {{>r}}"
	partials := []string{"p", p, "q", "{{>q}}", "r", ""}
	if made := mustMake(t, text+">", partials...); len(made.Visits) != 1+256 {
		t.Errorf("P8: from 256 states: %d visits", len(made.Visits))
	}
	want := api.Fault{Code: api.ErrContext, Kind: api.HolePlace, At: len(text)}
	if made, fault := Make(text+"{{a}}", parts(partials...)); made.Visits != nil || fault != want {
		t.Errorf("P8: from 256 states: %+v, want %+v", fault, want)
	}
	// Past that nothing is promised, but Make is to end all the same.
	if made, fault := Make(text+"b{{>r}}>", parts(partials...)); made.Visits != nil || fault != (api.Fault{Code: api.ErrContext}) {
		t.Errorf("P8: from 257 states: %+v", fault)
	}
	var many strings.Builder
	for _, letter := range "abcdefghijklmnopqrstuvwxyz0123456789" {
		many.WriteString("{{#x}}" + string(letter) + "{{>p}}{{>q}}{{/x}}")
	}
	if made, fault := Make("<a{{>p}}>", parts("p", many.String(), "q", "{{>q}}")); made.Visits != nil || fault != (api.Fault{Code: api.ErrContext}) {
		t.Errorf("P8: from very many states: %+v", fault)
	}
}

// TestP2NothingIsKept writes over all texts and names behind the call.
func TestP2NothingIsKept(t *testing.T) {
	bytes := [][]byte{[]byte("<p>{{a}}{{>p}}"), []byte("p"), []byte("x{{#b}}y{{/b}}")}
	texts := make([]string, len(bytes))
	for i := range bytes {
		texts[i] = unsafe.String(unsafe.SliceData(bytes[i]), len(bytes[i]))
	}
	made, _ := Make(texts[0], parts(texts[1], texts[2]))
	for i := range bytes {
		clear(bytes[i])
	}
	var kept strings.Builder
	for _, one := range made.Visits {
		for _, part := range one.Parts {
			kept.WriteString(part.Text + "|")
		}
	}
	if kept.String() != "<p>|a|p|x|b|y|b|" {
		t.Errorf("P2: the plan has %q", kept.String())
	}
}
