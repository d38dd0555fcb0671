package stencil_test

import (
	"fmt"
	"math"
	"reflect"
	"slices"
	"strings"
	"testing"
	"unsafe"

	"stencil/api"
	"stencil/stencil"
)

// fields are an Object: names and values by turns.
type fields []any

// dataOf lays a value down in pieces: nil, a bool, an int, a string, []any or fields.
func dataOf(value any) []api.Datum {
	var pieces []api.Datum
	var put func(any) int
	put = func(value any) int {
		at := len(pieces)
		pieces = append(pieces, api.Datum{})
		var one api.Datum
		switch v := value.(type) {
		case bool:
			one.Kind = api.Bool
			if v {
				one.N = 1
			}
		case int:
			one = api.Datum{Kind: api.Int, N: int64(v)}
		case string:
			one = api.Datum{Kind: api.Str, S: v}
		case []any:
			one.Kind = api.List
			for _, item := range v {
				one.Items = append(one.Items, put(item))
			}
		case fields:
			one.Kind = api.Object
			for i := 0; i < len(v); i += 2 {
				one.Names = append(one.Names, v[i].(string))
				one.Items = append(one.Items, put(v[i+1]))
			}
		}
		pieces[at] = one
		return at
	}
	put(value)
	return pieces
}

func mustCompile(t *testing.T, text string, partials ...string) *stencil.Template {
	t.Helper()
	made, fault := stencil.Compile(text, partialsOf(partials))
	if made == nil {
		t.Fatalf("P6: Compile(%q, %q): %+v", text, partials, fault)
	}
	return made
}

// wantEnd: that Render answers just this.
func wantEnd(t *testing.T, want string, wantErr api.Errno, made *stencil.Template, data []api.Datum, depth, room int) {
	t.Helper()
	page, holes, err := made.Render(data, depth, room)
	if page != want || err != wantErr || (err != api.OK && holes != nil) {
		t.Errorf("P10: Render(%.300s, %d, %d) = %.300q, %v, %d, want %.300q, %d", fmt.Sprint(data), depth, room, page, holes, err, want, wantErr)
	}
}

// wantPage: that Render writes this, and ends for want of room, at each room that
// is less.
func wantPage(t *testing.T, want string, data []api.Datum, text string, partials ...string) {
	t.Helper()
	made := mustCompile(t, text, partials...)
	for _, room := range []int{-1, len(want), len(want) + 1, math.MaxInt, math.MinInt} {
		wantEnd(t, want, api.OK, made, data, 50, room)
	}
	for room := range len(want) {
		wantEnd(t, want[:room], api.ErrSink, made, data, 50, room)
	}
}

// kinds are pieces of each kind: what a hole shows of them, and if they lack.
var kinds = []struct {
	piece api.Datum
	shown string
	lacks bool
}{
	{api.Datum{}, "", true},
	{api.Datum{Kind: api.Null, N: 1, S: "x", Items: []int{2}, Names: []string{"a"}}, "", true},
	{api.Datum{Kind: api.Bool}, "false", true},
	{api.Datum{Kind: api.Bool, S: "x", Items: []int{2}, Names: []string{"a"}}, "false", true},
	{api.Datum{Kind: api.Bool, N: 1}, "true", false},
	{api.Datum{Kind: api.Bool, N: math.MinInt64}, "true", false},
	{api.Datum{Kind: api.Int}, "0", false},
	{api.Datum{Kind: api.Int, N: math.MinInt64, S: "x"}, "-9223372036854775808", false},
	{api.Datum{Kind: api.Int, N: math.MaxInt64, Items: []int{2}}, "9223372036854775807", false},
	{api.Datum{Kind: api.Str}, "", true},
	{api.Datum{Kind: api.Str, N: 1, Items: []int{2}, Names: []string{"a"}}, "", true},
	{api.Datum{Kind: api.Str, S: "x"}, "x", false},
	{api.Datum{Kind: api.Str, S: " "}, " ", false},
	{api.Datum{Kind: api.Str, S: "\x00"}, "\ufffd", false},
	{api.Datum{Kind: api.Str, S: "\xff\x80\x7fé"}, "\ufffd\ufffd\x7fé", false},
	{api.Datum{Kind: api.List}, "", true},
	{api.Datum{Kind: api.List, N: 1, S: "x", Items: []int{}, Names: []string{"a"}}, "", true},
	{api.Datum{Kind: api.List, Items: []int{2}}, "", false},
	{api.Datum{Kind: api.List, Items: []int{-1}}, "", false},
	{api.Datum{Kind: api.Object}, "", false},
	{api.Datum{Kind: api.Object, S: "x", Items: []int{2}, Names: []string{"b"}}, "", false},
	{api.Datum{Kind: 6, N: 1, S: "x", Items: []int{2}, Names: []string{"a"}}, "", true},
	{api.Datum{Kind: -1, N: 1, S: "x", Items: []int{2}, Names: []string{"a"}}, "", true},
	{api.Datum{Kind: math.MaxInt, N: 1, S: "x"}, "", true},
	{api.Datum{Kind: math.MinInt, N: 1, S: "x"}, "", true},
	{api.Datum{Kind: api.Int + 256, N: 1, S: "x"}, "", true},
}

// TestP10Kinds: each kind of data as a hole and as a section, as the whole and in it.
func TestP10Kinds(t *testing.T) {
	for _, one := range kinds {
		taken := map[bool]string{false: "#", true: "^"}[one.lacks]
		whole := []api.Datum{one.piece, {}, {Kind: api.Str, S: "y"}}
		wantPage(t, "["+one.shown+"]"+taken, whole, "[{{.}}]{{#.}}#{{/.}}{{^.}}^{{/.}}")
		within := []api.Datum{{Kind: api.Object, Items: []int{1}, Names: []string{"v"}}, one.piece, {Kind: api.Str, S: "y"}}
		wantPage(t, "["+one.shown+"]"+taken, within, "[{{v}}]{{#v}}#{{/v}}{{^v}}^{{/v}}")
		if !one.lacks && one.piece.Kind != api.List {
			wantPage(t, one.shown+"!", whole, "{{#.}}{{.}}!{{/.}}")
			wantPage(t, one.shown+"!", within, "{{#v}}{{.}}!{{/v}}")
		}
		if one.lacks {
			wantPage(t, one.shown+"!", whole, "{{^.}}{{.}}!{{/.}}")
			wantPage(t, "!"+one.shown, within, "{{^v}}{{.}}!{{v}}{{/v}}")
		}
	}
}

func TestP10NoData(t *testing.T) {
	for _, data := range [][]api.Datum{nil, {}, {{}}} {
		wantPage(t, "<p>^^</p>", data, "<p>{{a}}{{.}}{{a.b.c.d}}{{#a}}#{{/a}}{{#.}}#{{/.}}{{^a}}^{{/a}}{{^.}}^{{/.}}{{>none}}</p>")
		wantPage(t, "", data, "")
		wantPage(t, "", data, "{{a}}")
	}
}

func TestP10Names(t *testing.T) {
	data := dataOf(fields{"a", "A", "b", fields{"a", "BA", "c", fields{"d", fields{"a", "deep"}, "n", nil}}, "l", []any{fields{"a", "LA"}, "item", nil, fields{"x", 1}}, "abcdefg9", 9, "_", "u", "n", nil, "f", false})
	for _, c := range [][2]string{
		{"{{a}} {{ a }} {{b.a}} {{b.c.d.a}} {{abcdefg9}} {{_}} {{f}}", "A A BA deep 9 u false"},
		{"[{{b.x}}{{x.a}}{{b.c.x.a}}{{a.a}}{{l.a}}{{n.a}}{{f.a}}{{b.c}}{{x}}]", "[]"},
		{"{{#b}}{{a}}{{c.d.a}}{{abcdefg9}}{{b.a}}{{/b}}{{a}}", "BAdeep9BAA"},
		{"{{#b}}{{#c}}{{a}}{{n}}{{#d}}{{a}}{{/d}}{{b.a}}{{#a}}{{.}}{{/a}}{{/c}}{{/b}}", "BAdeepBABA"},
		{"{{#b.c}}{{a}}|{{d.a}}|{{c.d.a}}{{/b.c}}", "A|deep|"},
		{"{{#l}}({{a}}{{.}}{{x}}){{/l}}", "(LA)(Aitem)(A)(A1)"},
		{"{{#b}}{{#a}}{{.}}{{a}}{{/a}}{{.}}{{/b}}", "BABA"},
		{"{{#b}}{{^n}}{{a}}{{/n}}{{#n}}x{{/n}}{{/b}}", "BA"},
		{"{{#.}}{{a}}{{#.}}{{b.a}}{{/.}}{{/.}}", "ABA"},
		{"{{#f}}x{{/f}}{{^f}}{{f}}{{.}}{{/f}}{{^b.c.x}}{{a}}{{/b.c.x}}{{^b.c.d}}x{{/b.c.d}}", "falseA"},
		{"{{#b.c.d.a}}{{.}}{{/b.c.d.a}}{{#n}}x{{/n}}{{#b.c.n}}x{{/b.c.n}}", "deep"},
	} {
		wantPage(t, c[1], data, c[0])
	}
	// The first Object that has the first identifier is the only one that is asked.
	inner := dataOf(fields{"a", fields{"b", "far"}, "in", fields{"a", fields{"c", 1}}, "no", fields{"a", nil}, "s", fields{"a", "x"}})
	wantPage(t, "far", inner, "{{a.b}}{{#in}}{{a.b}}{{/in}}{{#no}}{{a.b}}{{a}}{{/no}}{{#s}}{{a.b}}{{/s}}")
	wantPage(t, "x", dataOf("x"), "{{.}}{{a}}{{a.b}}{{#a}}y{{/a}}")
	wantPage(t, "12", dataOf([]any{1, 2}), "{{a}}{{#.}}{{.}}{{/.}}")
}

// TestP10Objects: names and items that do not answer to one another.
func TestP10Objects(t *testing.T) {
	const text = "[{{a}}][{{b}}][{{c}}]{{#a}}A{{/a}}{{#b}}B{{/b}}{{#c}}C{{/c}}"
	x, y := api.Datum{Kind: api.Str, S: "x"}, api.Datum{Kind: api.Str, S: "y"}
	object := func(items []int, names ...string) api.Datum {
		return api.Datum{Kind: api.Object, Items: items, Names: names}
	}
	for _, c := range []struct {
		whole api.Datum
		want  string
	}{
		{object([]int{1, 2}, "a", "b"), "[x][y][]AB"},
		{object([]int{1, 2}, "b", "c", "a"), "[][x][y]BC"},
		{object([]int{1, 2, 1}, "c", "b"), "[][y][x]BC"},
		{object([]int{1}, "a", "b"), "[x][][]A"},
		{object(nil, "a", "b"), "[][][]"},
		{object([]int{1, 2}), "[][][]"},
		{object([]int{1, 2, 2}, "a", "a", "b"), "[x][y][]AB"},
		{object([]int{2, 1, 1}, "a", "b", "b"), "[y][x][]AB"},
		{object([]int{0, 1}, "a", "a"), "[][][]"},
		{object([]int{9, 1, -1}, "c", "c", "b"), "[][][]"},
		{object([]int{0, 3, -1}, "a", "b", "c"), "[][][]"},
		{object([]int{math.MaxInt, math.MinInt, 1}, "a", "b", "c"), "[][][x]C"},
		{object([]int{1, 2, 1}, "", ".", "a.b"), "[][][]"},
		{object([]int{1, 2, 1}, "A", "a ", "b\x00"), "[][][]"},
	} {
		wantPage(t, c.want, []api.Datum{c.whole, x, y}, text)
	}
	// A name that has nothing hides what is further down.
	hidden := []api.Datum{object([]int{1, 2}, "a", "in"), x, object([]int{2}, "a")}
	wantPage(t, "x[]", hidden, "{{a}}{{#in}}[{{a}}{{#a}}!{{/a}}]{{/in}}")
	hidden[2] = object(nil, "a")
	wantPage(t, "x[x!]", hidden, "{{a}}{{#in}}[{{a}}{{#a}}!{{/a}}]{{/in}}")
}

// TestP10Items: items that are not later pieces are NULL, and are items all the same.
func TestP10Items(t *testing.T) {
	list := func(items ...int) api.Datum { return api.Datum{Kind: api.List, Items: items} }
	x := api.Datum{Kind: api.Str, S: "x"}
	const text = "{{#.}}[{{.}}{{^.}}-{{/.}}]{{/.}}"
	wantPage(t, "[x][x]", []api.Datum{list(1, 1), x}, text)
	wantPage(t, "[-][-][-][-][-][x]", []api.Datum{list(0, -1, 2, math.MaxInt, math.MinInt, 1), x}, text)
	wantPage(t, "[-]", []api.Datum{list(0)}, text)
	wantPage(t, "[x][-]", []api.Datum{list(2, 1), {Kind: 7, S: "x"}, x}, text)
	// An item of the second piece may be the third, but neither itself nor the first.
	const twice = "{{#.}}({{#.}}[{{.}}{{^.}}-{{/.}}]{{/.}}){{/.}}"
	wantPage(t, "([x][-][-][-])([x])", []api.Datum{list(1, 2), list(2, 1, 0, 3), x}, twice)
	wantPage(t, "([x][x])([x])()", []api.Datum{list(1, 3, 2), list(3, 3), list(), x}, twice)
	wantPage(t, "121", []api.Datum{list(3, 1, 2), {Kind: api.Int, N: 2}, {Kind: api.Int, N: 1}, {Kind: api.Int, N: 1}}, "{{#.}}{{.}}{{/.}}")
}

func TestP10Lists(t *testing.T) {
	data := dataOf(fields{"l", []any{[]any{1, 2}, []any{}, []any{[]any{3}, 4}}, "e", []any{}, "o", []any{fields{"l", []any{"i"}}, fields{}}})
	for _, c := range [][2]string{
		{"{{#l}}({{#.}}{{.}},{{/.}}){{/l}}", "(1,2,)()(,4,)"},
		{"{{#l}}{{#.}}{{#.}}{{.}}{{/.}}{{/.}};{{/l}}", "12;;34;"},
		{"{{#l}}{{^.}}-{{/.}}{{/l}}{{#e}}x{{/e}}{{^e}}y{{/e}}{{^l}}z{{/l}}", "-y"},
		{"{{#l}}{{#l}}.{{/l}}{{/l}}", "........."},
		{"{{#o}}{{#l}}[{{.}}]{{/l}}|{{/o}}", "[i]|[][][]|"},
		{"{{#o}}<i>{{/o}}{{#o}}</i>{{/o}}", "<i><i></i></i>"},
	} {
		wantPage(t, c[1], data, c[0])
	}
}

// TestP10Lines: what is left out with tags that stand alone is not written.
func TestP10Lines(t *testing.T) {
	data := dataOf(fields{"l", []any{1, 2}, "y", "Y"})
	for _, c := range [][2]string{
		{"a\n {{#l}}\t\n{{.}}\n\r{{/l}}\r\nb", "a\n1\n2\nb"},
		{"{{^n}}\n x \n{{/n}}", " x \n"},
		{"a {{!c}}\n{{!c}}\n\n {{y}} \n", "a \n\n Y \n"},
		{" {{>p}} \nb{{>p}}\n", "Y\nbY\n\n"},
		{" {{=<% %>=}}\n<%y%>\n<%! \n %>\n<%={{ }}=%>{{y}}", "Y\nY"},
		{" {{>none}}\n{{! a\n}} \n x\n", " x\n"},
	} {
		wantPage(t, c[1], data, c[0], "p", "{{y}}\n")
	}
}

// TestP10Places: a value in all the places that a hole may have.
func TestP10Places(t *testing.T) {
	data := dataOf(fields{"u", "http://x/'", "t", "a'b", "l", []any{1, 2}, "j", "javascript:x", "s", "</a>\"\\\n\xff", "n", -5, "y", true})
	for _, c := range [][2]string{
		{"<a href=\"{{u}}\" title='{{t}}'>{{#l}}{{.}},{{/l}}</a>", "<a href=\"http://x/%27\" title='a&#39;b'>1,2,</a>"},
		{"<a href='{{j}}' src=\"{{none}}{{j}}\" action='x{{j}}'><a href='/{{j}}' b='{{j}}'>", "<a href='#blocked' src=\"javascript%3Ax\" action='xjavascript%3Ax'><a href='/javascript%3Ax' b='javascript:x'>"},
		{"<a href='{{n}}{{u}}' src='{{y}}{{n}}'>", "<a href='-5http%3A//x/%27' src='true-5'>"},
		{"{{s}}<title>{{s}}</title>", "&lt;/a&gt;&quot;\\\n\ufffd<title>&lt;/a&gt;&quot;\\\n\ufffd</title>"},
		{"<script>'{{s}}' + \"{{t}}{{n}}\" + '{{y}}'</script>", `<script>'\x3c\x2fa\x3e\x22\x5c\x0a` + "\ufffd" + `' + "a\x27b-5" + 'true'</script>`},
		{"<style>'{{s}}'\"{{t}}\"</style>", `<style>'\3c \2f a\3e \22 \5c \a ` + "\ufffd" + `'"a\27 b"</style>`},
		{"{{>p}}<a href='{{>p}}{{>p}}' b='{{>p}}'><script>'{{>p}}'</script><style>\"{{>p}}\"</style>{{>p}}", `javascript:x<a href='#blockedjavascript%3Ax' b='javascript:x'><script>'javascript:x'</script><style>"javascript:x"</style>javascript:x`},
		{"a\x00\xff{{t}}\x80", "a\x00\xffa&#39;b\x80"},
	} {
		wantPage(t, c[1], data, c[0], "p", "{{j}}")
	}
}

func TestP10Partials(t *testing.T) {
	data := dataOf(fields{"a", "A", "l", []any{fields{"a", 1}, fields{"a", 2}}, "tree", fields{"v", 1, "kids", []any{fields{"v", 2, "kids", []any{fields{"v", 3, "kids", nil}}}, fields{"v", 4, "kids", []any{}}}}})
	wantPage(t, "A111221A1", data, "{{>p}}{{#l}}{{>p}}{{>q}}{{/l}}{{>none}}{{#q}}{{>q}}{{/q}}{{>q}}", "p", "{{a}}", "q", "{{#tree}}{{>r}}{{/tree}}", "r", "{{a}}{{^v}}x{{/v}}{{v}}{{#none}}{{>r}}{{/none}}")
	wantPage(t, "<i>1<i>2<i>3</i></i><i>4</i></i>", data, "{{#tree}}{{>t}}{{/tree}}", "t", "<i>{{v}}{{#kids}}{{>t}}{{/kids}}</i>")
	wantPage(t, "[[A]A]", data, "{{>p}}", "p", "[{{>q}}{{a}}]", "q", "[{{a}}]")
}

// nested is an object in objects, so many, each by the name a.
func nested(times int) any {
	var value any
	for range times {
		value = fields{"a", value}
	}
	return value
}

// TestP10Depth: a partial that names itself, as often as the data asks.
func TestP10Depth(t *testing.T) {
	made := mustCompile(t, "({{#a}}{{>p}}{{/a}})", "p", "x{{#a}}{{>p}}{{/a}}y")
	for _, depth := range []int{0, 1, 2, 3, 49, 50} {
		for partials := range 53 {
			data := dataOf(nested(partials + 1))
			if partials <= depth {
				wantEnd(t, "("+strings.Repeat("x", partials)+strings.Repeat("y", partials)+")", api.OK, made, data, depth, -1)
			} else {
				wantEnd(t, "("+strings.Repeat("x", depth), api.ErrDepth, made, data, depth, -1)
			}
		}
		endless := mustCompile(t, "<b {{>p}}{{a}}", "p", "x{{>p}}{{a}}<p {{a}}>")
		wantEnd(t, "<b "+strings.Repeat("x", depth), api.ErrDepth, endless, nil, depth, -1)
		twice := mustCompile(t, "{{>p}}", "p", "{{>q}}", "q", "x{{>p}}")
		wantEnd(t, strings.Repeat("x", depth/2), api.ErrDepth, twice, nil, depth, -1)
		wantEnd(t, "", api.ErrDepth, mustCompile(t, "{{>p}}", "p", "{{>p}}{{>p}}"), nil, depth, -1)
	}
	none := mustCompile(t, "a{{>none}}b{{#n}}{{>p}}{{/n}}", "p", "")
	wantEnd(t, "ab", api.OK, none, nil, 0, -1)
	side := mustCompile(t, "{{>p}}{{>p}}{{>q}}", "p", "x", "q", "{{>none}}{{>p}}{{>p}}")
	wantEnd(t, "xxxx", api.OK, side, nil, 2, -1)
	wantEnd(t, "xx", api.ErrDepth, side, nil, 1, -1)
	wantEnd(t, "", api.ErrDepth, side, nil, 0, -1)
}

// stepsAhead is data of which a section l with an empty body takes so many steps.
func stepsAhead(steps int) []api.Datum {
	items := make([]any, steps-1)
	return dataOf(fields{"l", items, "a", 1, "n", nil, "k", []any{nil, 2}})
}

// TestP10Work: each thing that may come to be a step, the last ones and one more.
func TestP10Work(t *testing.T) {
	for _, c := range []struct {
		text  string
		steps int
		page  string
		early string // what is written if the last step is one too many
	}{
		{"x", 1, "x", ""}, {"{{a}}", 1, "1", ""}, {"{{none}}", 1, "", ""}, {"{{>none}}", 1, "", ""}, {"{{>void}}", 1, "", ""}, {"{{>p}}", 2, "y", ""},
		{"{{#n}}x{{/n}}", 1, "", ""}, {"{{^a}}x{{/a}}", 1, "", ""}, {"{{#a}}{{/a}}", 2, "", ""}, {"{{^n}}{{/n}}", 2, "", ""}, {"{{#a}}x{{.}}{{/a}}", 4, "x1", "x"}, {"{{^n}}x{{/n}}", 3, "x", ""},
		{"{{#k}}{{/k}}", 3, "", ""}, {"{{#k}}{{.}}{{/k}}", 5, "2", ""}, {"{{#k}}{{>p}}{{/k}}", 7, "yy", "y"}, {"{{#k}}{{#k}}{{/k}}{{/k}}", 9, "", ""},
		{"x{{!c}}", 1, "x", ""}, {"x{{!c}}y", 2, "xy", "x"}, {"x{{=<% %>=}}y<%a%>", 3, "xy1", "xy"}, {"x{{!c}}{{!c}}{{a}}", 2, "x1", "x"},
		{"\n \t{{!c}} \r\n", 1, "\n", ""}, {"\n{{#a}}\n{{/a}}\n", 3, "\n", "\n"}, {"\n{{>p}}\n \n", 4, "\ny \n", "\ny"}, {"x {{!c}}\n", 2, "x \n", "x "},
	} {
		made := mustCompile(t, "{{#l}}{{/l}}"+c.text, "void", "", "p", "y")
		wantEnd(t, c.page, api.OK, made, stepsAhead(5000-c.steps), 1, -1)
		wantEnd(t, c.early, api.ErrWork, made, stepsAhead(5001-c.steps), 1, -1)
		wantEnd(t, "", api.ErrWork, made, stepsAhead(5000), 1, -1)
		more := mustCompile(t, "{{#l}}{{/l}}"+c.text+"{{!}}z", "void", "", "p", "y")
		wantEnd(t, c.page, api.ErrWork, more, stepsAhead(5000-c.steps), 1, -1)
	}
	nothing := mustCompile(t, "{{!c}}{{=| |=}}|! x|")
	wantEnd(t, "", api.OK, nothing, stepsAhead(9999), 0, 0)
	wantEnd(t, "", api.ErrWork, mustCompile(t, "{{#l}}{{/l}}"), stepsAhead(5001), 0, 0)
	wantEnd(t, "", api.ErrWork, mustCompile(t, "{{#l}}{{/l}}"), stepsAhead(1000000), 0, 0)
	// Twice the body of each of 50 partials: far more than 5000.
	const p = "{{#a}}{{>p}}{{>p}}{{/a}}"
	wantEnd(t, "", api.ErrWork, mustCompile(t, "{{>p}}", "p", p), dataOf(nested(50)), 50, -1)
}

func TestP10WhichIsFirst(t *testing.T) {
	made := mustCompile(t, "{{#l}}{{/l}}{{>p}}", "p", "xy{{a}}")
	wantEnd(t, "", api.ErrArg, made, stepsAhead(6000), -1, 0)
	wantEnd(t, "", api.ErrArg, made, stepsAhead(6000), 51, 0)
	wantEnd(t, "", api.ErrDepth, made, stepsAhead(4999), 0, 0)
	wantEnd(t, "", api.ErrWork, made, stepsAhead(5000), 0, 0)
	wantEnd(t, "x", api.ErrSink, made, stepsAhead(4998), 1, 1)
	wantEnd(t, "xy", api.ErrWork, made, stepsAhead(4998), 1, 2)
	wantEnd(t, "xy", api.ErrSink, made, stepsAhead(4997), 1, 2)
	wantEnd(t, "xy1", api.OK, made, stepsAhead(4997), 1, 3)
	wantEnd(t, "", api.ErrWork, made, stepsAhead(4999), 1, 0)
	deep := mustCompile(t, "ab{{>p}}c", "p", "{{>p}}")
	wantEnd(t, "a", api.ErrSink, deep, nil, 50, 1)
	wantEnd(t, "ab", api.ErrDepth, deep, nil, 50, 2)
	wantEnd(t, "ab", api.ErrDepth, deep, nil, 0, 2)
}

func TestP10WrongDepth(t *testing.T) {
	made := mustCompile(t, "x{{a}}")
	for _, depth := range []int{-1, 51, 52, 1 << 32, math.MaxInt, math.MinInt} {
		for _, room := range []int{-1, 0, 1, 100} {
			wantEnd(t, "", api.ErrArg, made, nil, depth, room)
			wantEnd(t, "", api.ErrArg, made, dataOf(fields{"a", 1}), depth, room)
		}
	}
	for depth := range 51 {
		wantEnd(t, "x1", api.OK, made, dataOf(fields{"a", 1}), depth, -1)
	}
	for _, none := range []*stencil.Template{nil, {}} {
		wantEnd(t, "", api.ErrArg, none, nil, 0, -1)
	}
}

// TestP10Room cuts what is written within a hole, a character and an escape.
func TestP10Room(t *testing.T) {
	data := dataOf(fields{"a", "<é", "e", ""})
	wantPage(t, "é&lt;é|<a href='%3C%C3%A9'>é", data, "é{{a}}{{e}}|<a href='{{a}}{{e}}'>{{#e}}x{{/e}}é")
	made := mustCompile(t, "ab{{e}}{{>p}}{{#a}}{{/a}}", "p", "")
	wantEnd(t, "ab", api.OK, made, data, 1, 2)
	wantEnd(t, "ab", api.ErrDepth, made, data, 0, 2)
	wantEnd(t, "a", api.ErrSink, made, data, 1, 1)
	wantEnd(t, "", api.ErrSink, made, data, 1, 0)
	wantEnd(t, "", api.OK, mustCompile(t, "{{e}}{{!}}{{>none}}"), data, 0, 0)
	long := dataOf(strings.Repeat("\"", 1<<20))
	wantEnd(t, "&quot;&qu", api.ErrSink, mustCompile(t, "{{.}}{{.}}"), long, 0, 9)
}

// TestP1RenderEnds asks with all numbers, and with data that branches at each piece.
func TestP1RenderEnds(t *testing.T) {
	branching := make([]api.Datum, 2000)
	for at := range branching {
		branching[at] = api.Datum{Kind: api.List, Items: []int{at + 1, at + 2, at, at + 1}}
	}
	all := [][]api.Datum{nil, branching}
	for _, one := range kinds {
		all = append(all, []api.Datum{one.piece, one.piece, one.piece})
	}
	numbers := []int{math.MinInt, -1, 0, 1, 2, 49, 50, 51, math.MaxInt}
	for _, texts := range [][]string{{""}, {"{{.}}{{a.b.c.d}}"}, {"{{>p}}", "p", "<i>{{#.}}{{>p}}{{/.}}{{^a}}{{>p}}{{/a}}</i>"}, {"<a href='{{>p}}'>", "p", "{{.}}{{>p}}"}} {
		made := mustCompile(t, texts[0], texts[1:]...)
		for _, data := range all {
			for _, depth := range numbers {
				for _, room := range numbers {
					page, _, err := made.Render(data, depth, room)
					if room >= 0 && len(page) > room || err < api.OK || err > api.ErrSink {
						t.Errorf("P1: Render of %q for %d, %d: %d bytes, %d", texts, depth, room, len(page), err)
					}
				}
			}
		}
	}
}

// wantHoles: that these are the holes: from where, to where and how each is written.
func wantHoles(t *testing.T, want [][3]int, data []api.Datum, text string, partials ...string) {
	t.Helper()
	page, holes, err := mustCompile(t, text, partials...).Render(data, 50, -1)
	var answer [][3]int
	for _, hole := range holes {
		answer = append(answer, [3]int{hole.From, hole.To, hole.As})
	}
	if !slices.Equal(answer, want) || err != api.OK {
		t.Errorf("P11: Render of %q: %q, %v, %d, want %v", text, page, answer, err, want)
	}
}

func TestP11Holes(t *testing.T) {
	data := dataOf(fields{"u", "http://x/'", "t", "a'", "e", "", "n", nil, "l", []any{1, 22}, "o", fields{}, "j", "j:"})
	wantHoles(t, nil, data, "")
	wantHoles(t, nil, data, "x{{#e}}{{t}}{{/e}}{{>none}}{{^t}}{{t}}{{/t}}")
	wantHoles(t, [][3]int{{0, 6, 1}}, data, "{{t}}")
	wantHoles(t, [][3]int{{1, 1, 1}, {1, 1, 1}, {1, 1, 1}, {1, 1, 1}, {1, 1, 1}, {1, 7, 1}}, data, "x{{e}}{{n}}{{l}}{{o}}{{none}}{{t}}")
	wantHoles(t, [][3]int{{9, 9, 2}, {9, 23, 3}, {30, 38, 2}, {38, 38, 3}}, data, "<a href='{{e}}{{u}}' src={{!}}\"{{j}}{{none}}\">")
	wantHoles(t, [][3]int{{9, 21, 2}, {30, 36, 1}, {38, 39, 1}, {40, 42, 1}}, data, "<a href=\"{{u}}\" title='{{t}}'>{{#l}}{{.}},{{/l}}</a>")
	wantHoles(t, [][3]int{{9, 14, 4}, {32, 37, 5}, {46, 52, 1}}, data, "<script>'{{t}}'</script><style>'{{t}}'</style>{{t}}")
	wantHoles(t, [][3]int{{0, 6, 1}, {12, 18, 1}, {18, 24, 1}, {26, 32, 1}}, data, "{{>p}}<b c='{{>p}}{{>p}}'>{{>p}}", "p", "{{t}}")
	wantHoles(t, [][3]int{{0, 0, 1}, {3, 3, 1}, {6, 6, 1}}, data, "{{#l}}{{>p}}{{/l}}{{>p}}", "p", "{{e}}<i>")
}

// TestP2RenderAgain: that what was asked ahead, with other data too and to an
// early end, changes no answer.
func TestP2RenderAgain(t *testing.T) {
	made := mustCompile(t, "<a href='{{u}}{{u}}'>{{#l}}{{>p}}{{/l}}</a>", "p", "{{#l}}{{>p}}{{/l}}{{.}},")
	one := dataOf(fields{"u", "http:", "l", []any{fields{"l", nil, "x", 1}, fields{"l", []any{fields{"l", ""}}}}})
	other := dataOf(fields{"u", "x:", "l", fields{"l", 0}})
	page, holes, err := made.Render(one, 50, -1)
	if page != "<a href='http:http%3A'>,,,</a>" || len(holes) != 5 || err != api.OK {
		t.Fatalf("P10: Render: %q, %v, %d", page, holes, err)
	}
	want := slices.Clone(holes)
	for range 3 {
		wantEnd(t, "<a href='#blockedx%3A'>", api.ErrDepth, made, other, 50, -1)
		wantEnd(t, "<a href='http:http%", api.ErrSink, made, one, 50, 19)
		wantEnd(t, "<a href='http:http%3A'>,", api.ErrDepth, made, one, 1, -1)
		wantEnd(t, "", api.ErrArg, made, one, 51, -1)
		wantEnd(t, "<a href=''></a>", api.OK, made, nil, 0, -1)
		again, more, err := made.Render(one, 50, -1)
		if again != page || !slices.Equal(more, want) || err != api.OK {
			t.Fatalf("P2: Render, asked again: %q, %v, %d", again, more, err)
		}
		clear(holes[:cap(holes)])
		if !slices.Equal(more, want) {
			t.Fatalf("P2: two lists of holes share memory: %v", more)
		}
		holes = more
	}
}

// TestP2RenderKeepsNothing writes over all that was handed in behind the call.
func TestP2RenderKeepsNothing(t *testing.T) {
	value, name := []byte("plain"), []byte("a")
	valueText, nameText := unsafe.String(&value[0], len(value)), unsafe.String(&name[0], len(name))
	data := []api.Datum{
		{Kind: api.Object, Items: []int{1, 2}[:2:2], Names: []string{nameText, "l"}},
		{Kind: api.Str, S: valueText},
		{Kind: api.List, Items: append(make([]int, 0, 9), 3, 1, 4)},
		{Kind: api.Int, N: 7},
	}
	before := []api.Datum{
		{Kind: api.Object, Items: []int{1, 2}, Names: []string{"a", "l"}},
		{Kind: api.Str, S: "plain"},
		{Kind: api.List, Items: []int{3, 1, 4}},
		{Kind: api.Int, N: 7},
	}
	text := "{{a}}<a href='{{a}}{{a}}'><script>'{{a}}'</script><style>'{{a}}'</style>{{#l}}{{.}}{{/l}}"
	for _, alone := range []string{"{{a}}", text} {
		copy(value, "plain")
		copy(name, "a")
		made := mustCompile(t, alone)
		page, holes, _ := made.Render(data, 0, -1)
		kept, keptHoles := strings.Clone(page), slices.Clone(holes)
		cut, _, _ := made.Render(data, 0, 3)
		if !reflect.DeepEqual(data, before) || !slices.Equal(data[2].Items[:9], []int{3, 1, 4, 0, 0, 0, 0, 0, 0}) {
			t.Fatalf("P2: the data was written into: %v", data)
		}
		copy(value, "?????")
		copy(name, "b")
		if page != kept || !slices.Equal(holes, keptHoles) || cut != kept[:3] {
			t.Errorf("P2: what Render answers shares memory with the data: %q, %q", page, cut)
		}
		wantEnd(t, kept, api.OK, made, before, 0, -1)
	}
}
