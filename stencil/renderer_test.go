package stencil_test

import (
	"slices"
	"strconv"
	"strings"
	"testing"

	"stencil/api"
	"stencil/stencil"
)

// A second way to render: the data is made values of Go's own, the text is walked
// as a tree, and how a hole is written is told by looking back over the page.

// valueOf is the whole of the data as nil, a bool, an int64, a string, []any or
// a map. Each piece is made behind those that it may have as items.
func valueOf(data []api.Datum) any {
	values := make([]any, len(data)+1)
	for at, one := range slices.Backward(data) {
		item := func(i int) any {
			if number := one.Items[i]; number > at && number < len(data) {
				return values[number]
			}
			return nil
		}
		switch one.Kind {
		case api.Bool:
			values[at] = one.N != 0
		case api.Int:
			values[at] = one.N
		case api.Str:
			values[at] = one.S
		case api.List:
			list := []any{}
			for i := range one.Items {
				list = append(list, item(i))
			}
			values[at] = list
		case api.Object:
			named := map[string]any{}
			for i := min(len(one.Items), len(one.Names)) - 1; i >= 0; i-- {
				named[one.Names[i]] = item(i)
			}
			values[at] = named
		}
	}
	return values[0]
}

func shownAgain(value any) string {
	switch v := value.(type) {
	case bool:
		return strconv.FormatBool(v)
	case int64:
		return strconv.Itoa(int(v))
	case string:
		return v
	}
	return ""
}

// turnsOf are the values with which a section's body is written.
func turnsOf(value any) []any {
	list, isList := value.([]any)
	switch {
	case isList:
		return list
	case value == nil, value == any(false), value == any(""):
		return nil
	}
	return []any{value}
}

// findAgain looks a name up in a stack.
func findAgain(stack []any, name string) any {
	if name == "." {
		return stack[len(stack)-1]
	}
	var found any
	words := strings.Split(name, ".")
	for _, level := range stack {
		if named, _ := level.(map[string]any); named != nil {
			if value, has := named[words[0]]; has {
				found = value
			}
		}
	}
	for _, word := range words[1:] {
		named, _ := found.(map[string]any)
		found = named[word]
	}
	return found
}

// writtenAs is how a hole is written there.
func (s sight) writtenAs() int {
	switch {
	case s.mode == api.JsDouble || s.mode == api.JsSingle:
		return api.AsJs
	case s.mode == api.CsDouble || s.mode == api.CsSingle:
		return api.AsCss
	case s.kind == "link" && s.far == "fresh":
		return api.AsFirst
	case s.kind == "link":
		return api.AsLink
	}
	return api.AsText
}

// shown: what a hole shows, and where.
type shown struct {
	value string
	hole  api.Hole
}

// renderer: what is written so far. What ends it early is a panic of its number.
type renderer struct {
	trees       map[string]*node
	depth, room int
	steps       int
	page        string
	bare        string // the page, with a byte for each hole
	shown       []shown
}

func (r *renderer) step() {
	if r.steps++; r.steps > 5000 {
		panic(api.ErrWork)
	}
}

func (r *renderer) write(text string) {
	for at := range len(text) {
		if len(r.page) == r.room {
			panic(api.ErrSink)
		}
		r.page += text[at : at+1]
	}
}

func (r *renderer) nodes(all []*node, stack []any, within int) {
	for _, one := range all {
		if one.kind == "text" && one.text == "" {
			continue
		}
		r.step()
		switch one.kind {
		case "text":
			r.write(one.text)
			r.bare += one.text
		case "hole":
			as, from, value := lookBack(r.bare).writtenAs(), len(r.page), shownAgain(findAgain(stack, one.text))
			text, _ := stencil.Escape(as, value)
			r.write(text)
			r.bare += holeByte
			r.shown = append(r.shown, shown{value, api.Hole{From: from, To: len(r.page), As: as}})
		case "#":
			for _, turn := range turnsOf(findAgain(stack, one.text)) {
				r.step()
				r.nodes(one.body, append(slices.Clone(stack), turn), within)
			}
		case "^":
			if len(turnsOf(findAgain(stack, one.text))) == 0 {
				r.step()
				r.nodes(one.body, stack, within)
			}
		case ">":
			if tree := r.trees[one.text]; tree != nil {
				if within == r.depth {
					panic(api.ErrDepth)
				}
				r.nodes(tree.body, stack, within+1)
			}
		}
	}
}

// renderAgain is what Render is to answer of a template that Compile takes.
func renderAgain(text string, partials []api.Partial, data []api.Datum, depth, room int) (r renderer, err api.Errno) {
	r = renderer{trees: map[string]*node{}, depth: depth, room: room}
	for _, one := range partials {
		r.trees[one.Name], _, _ = cutAgain(one.Text)
	}
	tree, _, _ := cutAgain(text)
	defer func() {
		if ended, early := recover().(api.Errno); early {
			err = ended
		}
	}()
	r.nodes(tree.body, []any{valueOf(data)}, 0)
	return r, api.OK
}

var (
	awkward = []string{
		"", "", "a", "\"", "'", "<", ">", "</script>", "</title>", "</style ", "<!--", "-->", "\\", "\\\"", "\n", "\r", "`", "*/", "javascript:x", "http:x", "&quot;", "\x00", "\xff\"", "\xe2\x80", "\u2028", "{{a}}", "=", "/>", "%41", "é<", ":", "&",
	}
	dataNames = []string{"a", "a", "b", "b", "c", "d", "", ".", "b.c", "\xff"}
)

// data makes pieces of data, of which few are wrong.
func (c *chooser) data() []api.Datum {
	data := make([]api.Datum, c.below(12))
	for at := range data {
		one := api.Datum{Kind: c.below(6), N: int64(c.below(5) - 2)}
		if at == 0 && c.below(4) > 0 {
			one.Kind = api.Object
		}
		if c.below(20) == 0 {
			one.Kind = c.below(20) - 8
		}
		if c.below(4) > 0 {
			one.S = c.of(awkward) + c.of(awkward)
		}
		for range c.below(5) {
			one.Items = append(one.Items, at+1+c.below(4))
			one.Names = append(one.Names, c.of(dataNames))
		}
		if c.below(5) == 0 {
			one.Items = append(one.Items, c.below(len(data)+4)-2)
		}
		if c.below(5) == 0 {
			one.Names = append(one.Names, c.of(dataNames))
		}
		data[at] = one
	}
	return data
}

// alike makes data that differs in nothing but Ints and Strs that are not empty.
func (c *chooser) alike(data []api.Datum) []api.Datum {
	other := slices.Clone(data)
	for at := range other {
		if other[at].Kind == api.Int {
			other[at].N = int64(c.below(5) - 2)
		}
		if other[at].Kind == api.Str && other[at].S != "" {
			other[at].S = c.of(awkward) + c.of(awkward[2:])
		}
	}
	return other
}

// each calls for many templates that Compile takes, with data for each.
func (c *chooser) each(times int, call func(made *stencil.Template, text string, partials []api.Partial, data []api.Datum)) {
	for range times {
		text, partials := c.template()
		made, _ := stencil.Compile(text, partials)
		if made == nil {
			continue
		}
		for range 4 {
			call(made, text, partials, c.data())
		}
	}
}

// TestP10SecondRenderer holds Render against the second way on many templates.
func TestP10SecondRenderer(t *testing.T) {
	c := chooser{seed: 2}
	answers := map[api.Errno]int{}
	ways := map[int]int{}
	c.each(12000, func(made *stencil.Template, text string, partials []api.Partial, data []api.Datum) {
		depth, room := []int{0, 1, 2, 3, 8, 50}[c.below(6)], c.below(60)-30
		again, want := renderAgain(text, partials, data, depth, room)
		answers[want]++
		var wantHoles []api.Hole
		for _, one := range again.shown {
			ways[one.hole.As]++
			wantHoles = append(wantHoles, one.hole)
		}
		if want != api.OK {
			wantHoles = nil
		}
		page, holes, err := made.Render(data, depth, room)
		if page != again.page || err != want || !slices.Equal(holes, wantHoles) {
			t.Fatalf("P10: Render of %q, %q with %v, %d, %d: %q, %v, %d, want %q, %v, %d", text, partials, data, depth, room, page, holes, err, again.page, wantHoles, want)
		}
	})
	if answers[api.OK] < 1000 || answers[api.ErrDepth] < 1000 || answers[api.ErrSink] < 1000 || len(ways) != 5 {
		t.Errorf("P10: the templates come to few of all answers: %v, holes %v", answers, ways)
	}
}

// withList adds a List of so many items to the whole, if that is an Object. It
// stands behind where an item of chooser's data may point, so that those stay NULL.
func withList(data []api.Datum, name string, items int) []api.Datum {
	if len(data) == 0 || data[0].Kind != api.Object {
		return nil
	}
	whole, both := data[0], min(len(data[0].Items), len(data[0].Names))
	whole.Items = append(slices.Clone(whole.Items[:both]), len(data)+4)
	whole.Names = append(slices.Clone(whole.Names[:both]), name)
	longer := slices.Concat([]api.Datum{whole}, data[1:], make([]api.Datum, 4))
	return append(longer, api.Datum{Kind: api.List, Items: make([]int, items)})
}

// TestP10StepsOfRendered: as many steps ahead of a template as may be, and one more.
func TestP10StepsOfRendered(t *testing.T) {
	c := chooser{seed: 4}
	tried := 0
	c.each(1000, func(_ *stencil.Template, text string, partials []api.Partial, data []api.Datum) {
		text = "{{#z}}{{/z}}!" + text
		made, _ := stencil.Compile(text, partials)
		again, err := renderAgain(text, partials, withList(data, "z", 0), 8, -1)
		if made == nil || err != api.OK || len(again.page) == 0 || withList(data, "z", 0) == nil {
			return
		}
		tried++
		left := api.MaxWork - again.steps
		wantEnd(t, again.page, api.OK, made, withList(data, "z", left), 8, -1)
		cut, err := renderAgain(text, partials, withList(data, "z", left+1), 8, -1)
		wantEnd(t, cut.page, err, made, withList(data, "z", left+1), 8, -1)
		if err != api.ErrWork {
			t.Fatalf("P10: %q takes fewer steps than there are: %d", text, err)
		}
	})
	if tried < 300 {
		t.Errorf("P10: the steps of only %d templates are counted", tried)
	}
}

// outside is what is no hole's of a page: bytes and the modes behind them.
func outside(page string, holes []api.Hole) (string, []int) {
	modes := stencil.Modes(page)
	for _, hole := range slices.Backward(holes) {
		page = page[:hole.From] + holeByte + page[hole.To:]
		modes = slices.Replace(modes, hole.From, hole.To, 0)
	}
	return page, modes
}

// TestP12OfRendered looks at what callers lean on, on many templates.
func TestP12OfRendered(t *testing.T) {
	c := chooser{seed: 3}
	c.each(12000, func(made *stencil.Template, text string, partials []api.Partial, data []api.Datum) {
		page, holes, err := made.Render(data, 8, -1)
		if err != api.OK {
			return
		}
		again, _ := renderAgain(text, partials, data, 8, -1)
		modes := stencil.Modes(page)
		for i, hole := range holes {
			ahead, value, written := api.Text, again.shown[i].value, page[hole.From:hole.To]
			if hole.From > 0 {
				ahead = modes[hole.From-1]
			}
			if slices.ContainsFunc(modes[hole.From:hole.To], func(mode int) bool { return mode != ahead }) {
				t.Fatalf("P12: the value %q leads on in %q", value, page)
			}
			if blocked := hole.As == api.AsFirst && written == "#blocked"; !blocked && undo(t, hole.As, written) != stencil.Clean(value) {
				t.Fatalf("P12: the value %q is %q, written the way %d", value, written, hole.As)
			}
			if len(written) > 24*len(value)+8 {
				t.Fatalf("P12: the value %q is written %q", value, written)
			}
		}
		other, otherHoles, err := made.Render(c.alike(data), 8, -1)
		bytes, behind := outside(page, holes)
		otherBytes, otherBehind := outside(other, otherHoles)
		if err != api.OK || bytes != otherBytes || !slices.Equal(behind, otherBehind) {
			t.Fatalf("P12: values alone make %q of %q", other, page)
		}
	})
}

// TestP12EachValue: all pairs of bytes, and more, in all the places.
func TestP12EachValue(t *testing.T) {
	made := mustCompile(t, "<a b=\"{{.}}\" c='{{.}}' href=\"{{.}}{{.}}\" src='{{.}}'>{{.}}</a><title>{{.}}</title><script>'{{.}}'+\"{{.}}\"</script><style>'{{.}}'\"{{.}}\"</style>{{#.}}<b>{{/.}}")
	page, holes, _ := made.Render(dataOf("a"), 0, -1)
	wantBytes, wantModes := outside(page, holes)
	for _, value := range oddValues() {
		if value == "" {
			continue
		}
		page, holes, err := made.Render(dataOf(value), 0, -1)
		bytes, modes := outside(page, holes)
		if err != api.OK || bytes != wantBytes || !slices.Equal(modes, wantModes) {
			t.Fatalf("P12: the value %.20q leads on in %.200q", value, page)
		}
	}
}
