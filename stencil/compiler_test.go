package stencil_test

import (
	"regexp"
	"slices"
	"strings"
	"testing"

	"stencil/api"
	"stencil/stencil"
)

// A second way to compile: a text is cut into a tree; a state is told by looking
// back over the whole page ahead; in what partials end is found as the document
// has it, by going through all of them anew till nothing changes.

// node: a tag or a text; of a section its body too.
type node struct {
	kind string // text, hole, #, ^ or >
	at   int
	text string
	body []*node
}

var (
	nameForm   = regexp.MustCompile(`^(\.|[a-z0-9_]{1,8}(\.[a-z0-9_]{1,8}){0,3})$`)
	identForm  = regexp.MustCompile(`^[a-z0-9_]{1,8}$`)
	delimsForm = regexp.MustCompile(`^=[\t\n\f\r ]*([^\t\n\f\r =]{1,3})[\t\n\f\r ]+([^\t\n\f\r =]{1,3})[\t\n\f\r ]*=$`)
)

// cutAgain cuts a text (of bytes below 128) into a tree, or tells the slip.
func cutAgain(text string) (tree *node, kind, at int) {
	if len(text) > 2000 {
		return nil, api.TooLong, 0
	}
	tree = &node{}
	open := []*node{tree}
	opening, closing := "{{", "}}"
	for from := 0; ; {
		inner := open[len(open)-1]
		begin := strings.Index(text[from:], opening) + from
		if begin < from {
			inner.body = append(inner.body, &node{kind: "text", at: from, text: text[from:]})
			if len(open) > 1 {
				return nil, api.Open, inner.at
			}
			return tree, 0, 0
		}
		content, _, closed := strings.Cut(text[begin+len(opening):], closing)
		if !closed {
			return nil, api.Unclosed, begin
		}
		end := begin + len(opening) + len(content) + len(closing)
		content = strings.Trim(content, blanks)
		if kind := badContent(content); kind != 0 {
			return nil, kind, begin
		}
		sign, name := content[:1], strings.TrimLeft(content[1:], blanks)
		until, next := begin, end
		if strings.Contains(signs, sign) {
			until, next = aloneAgain(text, begin, end)
		}
		inner.body = append(inner.body, &node{kind: "text", at: from, text: text[from:until]})
		from = next
		switch {
		case sign == "!":
		case sign == "=":
			words := delimsForm.FindStringSubmatch(content)
			opening, closing = words[1], words[2]
		case sign == "/" && len(open) == 1:
			return nil, api.Stray, begin
		case sign == "/" && inner.text != name:
			return nil, api.Mismatch, begin
		case sign == "/":
			open = open[:len(open)-1]
		case sign == ">":
			inner.body = append(inner.body, &node{kind: ">", at: begin, text: name})
		case !strings.Contains(signs, sign):
			inner.body = append(inner.body, &node{kind: "hole", at: begin, text: content})
		case len(open) > 6:
			return nil, api.Deep, begin
		default:
			section := &node{kind: sign, at: begin, text: name}
			inner.body = append(inner.body, section)
			open = append(open, section)
		}
	}
}

// signs are the bytes that the contents of all tags but holes begin with.
const signs = "!=#^/>"

// badContent is the slip of a content, as far as it does not hang on others.
func badContent(content string) int {
	form, kind := nameForm, api.BadName
	switch {
	case content == "":
		return api.BadName
	case content[0] == '!':
		return 0
	case content[0] == '=':
		form, kind = delimsForm, api.BadDelims
	case content[0] == '>':
		form = identForm
		fallthrough
	case strings.Contains(signs, content[:1]):
		content = strings.TrimLeft(content[1:], blanks)
	}
	if form.MatchString(content) {
		return 0
	}
	return kind
}

// aloneAgain looks at the line of a tag: what is left out with it.
func aloneAgain(text string, begin, end int) (int, int) {
	line := strings.LastIndexByte(text[:begin], '\n') + 1
	rest, _, more := strings.Cut(text[end:], "\n")
	if strings.Trim(text[line:begin]+rest, blanks) != "" {
		return begin, end
	}
	if more {
		return line, end + len(rest) + 1
	}
	return line, len(text)
}

// holeByte tells in a page of a hole.
const holeByte = "\x01"

// sight: what is seen from the end of a page, looking back.
type sight struct {
	mode          int
	name, element string
	kind, far     string
	end, hex      int
	reference     bool
	escaping      bool
}

var (
	referenceForm = regexp.MustCompile(`&[A-Za-z0-9#]*$`)
	percentForm   = regexp.MustCompile(`%[0-9a-fA-F]?$`)
	jsForm        = regexp.MustCompile(`(?s)^(?:[^\\]|\\.)*?(\\|\\x[0-9a-fA-F]?|\\u[0-9a-fA-F]{0,3})$`)
	cssForm       = regexp.MustCompile(`(?s)^(?:[^\\]|\\.)*?(\\[0-9a-fA-F]{0,5})$`)
	attributeForm = regexp.MustCompile(`^(?:(href|src|action)|(style|on.*))$`)
)

func lookBack(page string) sight {
	clean := strings.ReplaceAll(page, holeByte, "")
	r := reader{page: clean, mode: api.Text}
	modes := make([]int, len(clean))
	for at := range len(clean) {
		r.read(at)
		modes[at] = r.mode
	}
	s := sight{mode: r.mode}
	kept := func(name string) string { return strings.ToLower(name[:min(len(name), 9)]) }
	if r.mode == api.TagName {
		s.name = kept(clean[r.tag:])
	}
	if r.mode >= api.InTag && r.mode <= api.Bare {
		if name := r.tagName(); slices.Contains([]string{"title", "textarea", "script", "style"}, name) {
			s.element = name
		}
	}
	if r.mode == api.AttrName {
		s.name = kept(clean[r.began:])
	}
	if r.mode >= api.AfterAt && r.mode <= api.Single {
		name := len(modes)
		for modes[name-1] != api.AttrName {
			name--
		}
		begin := name
		for modes[begin-1] == api.AttrName {
			begin--
		}
		if found := attributeForm.FindStringSubmatch(strings.ToLower(clean[begin:name])); found != nil && found[1] != "" {
			s.kind = "link"
		} else if found != nil {
			s.kind = "barred"
		}
	}
	if slices.Contains([]int{api.Text, api.Double, api.Single, api.Soft}, r.mode) {
		s.reference = referenceForm.MatchString(clean[min(r.began, len(clean)):])
	}
	if s.kind == "link" && r.mode >= api.Double {
		s.far, s.hex = lookBackOverLink(page, r.began)
	}
	if r.mode >= api.Soft {
		s.element = r.element
		end := "</" + r.element
		for n := range end {
			if strings.HasSuffix(strings.ToLower(clean[r.content:]), end[:n+1]) {
				s.end = n + 1
			}
		}
		s.escaping, s.hex = lookBackOverString(r.mode, clean[r.began:])
	}
	return s
}

// lookBackOverLink is how far a link is, of which the value begins behind that
// byte (not counting holes), and how much of a percent is open.
func lookBackOverLink(page string, began int) (far string, hex int) {
	begin := 0
	for count := 0; count <= began; begin++ {
		if page[begin] != holeByte[0] {
			count++
		}
	}
	value := page[begin:]
	clean := strings.ReplaceAll(value, holeByte, "")
	if found := percentForm.FindString(clean); found != "" {
		hex = 3 - len(found)
	}
	ahead, _, holes := strings.Cut(value, holeByte)
	switch {
	case strings.ContainsAny(clean, "/?#") || strings.Contains(ahead, ":"):
		return "decided", hex
	case holes:
		return "mixed", hex
	case value != "":
		return "undecided", hex
	}
	return "fresh", hex
}

// lookBackOverString looks for an escape that is open, in a string with its
// opening quote.
func lookBackOverString(mode int, quoted string) (escaping bool, hex int) {
	form := cssForm
	switch mode {
	case api.JsDouble, api.JsSingle, api.JsTick:
		form = jsForm
	case api.CsDouble, api.CsSingle:
	default:
		return false, 0
	}
	found := form.FindStringSubmatch(quoted[1:])
	switch {
	case found == nil:
		return false, 0
	case found[1] == `\`:
		return true, 0
	case found[1][1] == 'x':
		return false, len(`\x00`) - len(found[1])
	case found[1][1] == 'u':
		return false, len(`\u0000`) - len(found[1])
	}
	return false, len(`\000000`) - len(found[1])
}

// holeWrong is what is wrong with a hole there, or 0.
func (s sight) holeWrong() int {
	switch {
	case !slices.Contains([]int{1, 8, 9, 19, 21, 22, 29, 30}, s.mode):
		return api.HolePlace
	case s.kind == "barred":
		return api.HoleAttr
	case s.reference || s.escaping || s.hex > 0 || s.end > 0:
		return api.HoleMid
	}
	return 0
}

// naming: a partial, and where one is when it is named.
type naming struct {
	name string
	from sight
}

// ending: the page with which something ends, if it does.
type ending struct {
	page string
	ends bool
}

// compiler: what is known while a template is compiled the second way.
type compiler struct {
	trees map[string]*node
	pages map[naming]string // a page ahead of each naming
	order []naming
	ends  map[naming]ending
	final bool
	gone  map[naming]bool
	fault api.Fault
}

func (c *compiler) wrong(where string, kind, at int) {
	if c.final && c.fault == (api.Fault{}) {
		c.fault = api.Fault{Code: api.ErrContext, Kind: kind, Where: where, At: at}
	}
}

// through goes through nodes of a text, whatever is wrong.
func (c *compiler) through(where string, nodes []*node, page string) ending {
	for _, one := range nodes {
		switch one.kind {
		case "text":
			for at := range len(one.text) {
				if one.text[at] == ':' && lookBack(page).far == "mixed" {
					c.wrong(where, api.Scheme, one.at+at)
				}
				page += one.text[at : at+1]
			}
		case "hole":
			if wrong := lookBack(page).holeWrong(); wrong != 0 {
				c.wrong(where, wrong, one.at)
			}
			page += holeByte
		case ">":
			if c.trees[one.text] == nil {
				continue
			}
			end := c.named(one.text, page)
			if !end.ends {
				return end
			}
			page = end.page
		default:
			end := c.through(where, one.body, page)
			if end.ends && lookBack(end.page) != lookBack(page) {
				c.wrong(where, api.Branch, one.at)
			}
		}
	}
	return ending{page, true}
}

// named is in what a partial ends, as far as that is known.
func (c *compiler) named(name, page string) ending {
	key := naming{name, lookBack(page)}
	if _, known := c.pages[key]; !known {
		c.pages[key] = page
		c.order = append(c.order, key)
	}
	if c.final && !c.gone[key] {
		c.gone[key] = true
		c.through(name, c.trees[name].body, c.pages[key])
	}
	return c.ends[key]
}

// findEnds goes through all partials anew till nothing changes, or tells that
// they are named from too many states.
func (c *compiler) findEnds() bool {
	c.through("", c.trees[""].body, "")
	for changed := true; changed; {
		changed = false
		for i := 0; i < len(c.order); i++ {
			if i > 256 {
				return false
			}
			key := c.order[i]
			end := c.through(key.name, c.trees[key.name].body, c.pages[key])
			if end.ends != c.ends[key].ends {
				c.ends[key], changed = end, true
			}
		}
		c.through("", c.trees[""].body, "")
	}
	return len(c.order) <= 256
}

// compileAgain is the fault of a template, if something is promised of it.
func compileAgain(text string, partials []api.Partial) (api.Fault, bool) {
	c := compiler{trees: map[string]*node{}, pages: map[naming]string{}, ends: map[naming]ending{}, gone: map[naming]bool{}}
	for _, one := range append([]api.Partial{{Text: text}}, partials...) {
		tree, kind, at := cutAgain(one.Text)
		if kind != 0 {
			return api.Fault{Code: api.ErrSyntax, Kind: kind, Where: one.Name, At: at}, true
		}
		c.trees[one.Name] = tree
	}
	if !c.findEnds() {
		return api.Fault{}, false
	}
	c.final = true
	end := c.through("", c.trees[""].body, "")
	if end.ends && lookBack(end.page) != lookBack("") {
		c.wrong("", api.End, len(text))
	}
	return c.fault, true
}

// chooser chooses by a short rule.
type chooser struct {
	seed uint64
}

func (c *chooser) below(n int) int {
	c.seed = c.seed*6364136223846793005 + 1442695040888963407
	return int(c.seed>>33) % n
}

func (c *chooser) of(all []string) string {
	return all[c.below(len(all))]
}

var (
	loosePieces = []string{
		"<", ">", "/", "</", "<p", "<a href='", `" src="`, " style=", "' onx='", " style='{{a}}'", "'", `"`, "=", " ", "\n", "a", "B", "4", "&", "#", ":", "?", "%", "%4", ";", "x", "`", `\`, `\x`, `\u00`, `\4`,
		"<script>", "</script>", "<style>", "</style ", "<title>", "</tit", "</title>", "<!--", "--", "-->", "//", "/*", "*/", " B='x' ", "<textarea/", "abcdefghij",
		"{{!}}", "\n{{!}}\n", " {{! x\n}} \n", "{{=< >=}}<={{ }}=>", "{{}}", "{{/a}}", "{{#a}}", "{{a..b}}", "}}", "{{",
	}
	fullPieces = []string{"x", "<p>", "</p>", "&amp;", " ", "/", "<i b='x'>", "<br/>", "y:", "\n", "<!-- x -->", "%41", "\\\\"}
	frames     = [][2]string{
		{"<a href='", "'>"}, {`<a SRC="`, `">`}, {"<i b='", "'>"}, {"<i ", ">"}, {"<i", ">"}, {"<i a", "=b>"}, {"<script>'", "'</script>"}, {"<style>\"", "\"</style>"}, {"<title>", "</title>"}, {"<a href='/", "'>"}, {"<p>", "</p>"},
	}
	holeNames    = []string{"a", "a", "b", ".", "b.c", "c.d.a"}
	sectionNames = []string{"a", "b", "b.c", "."}
	partialNames = []string{"p", "q", "r"}
)

// text makes a text of pieces, of which one in so many stands for itself.
func (c *chooser) text(depth, loose int) string {
	var out strings.Builder
	for range 1 + c.below(4) {
		if c.below(loose) == 0 {
			out.WriteString(c.of(loosePieces))
			continue
		}
		switch kind := c.below(12); {
		case kind < 3:
			out.WriteString("{{" + c.of(holeNames) + "}}")
		case kind < 5:
			out.WriteString("{{>" + c.of(partialNames) + "}}")
		case kind < 8 && depth > 0:
			name := c.of(sectionNames)
			out.WriteString("{{" + c.of([]string{"#", "^"}) + name + "}}" + c.of([]string{"", "", "\n"}) + c.text(depth-1, loose) + "{{/" + name + "}}")
		case kind < 10 && depth > 0:
			frame := frames[c.below(len(frames))]
			out.WriteString(frame[0] + c.text(depth-1, loose) + frame[1])
		default:
			out.WriteString(c.of(fullPieces))
		}
	}
	return out.String()
}

// template makes a template, with up to three partials.
func (c *chooser) template() (string, []api.Partial) {
	loose := []int{3, 10, 30, 1000}[c.below(4)]
	text := c.text(3, loose)
	var partials []api.Partial
	for _, name := range partialNames[:c.below(4)] {
		partials = append(partials, api.Partial{Name: name, Text: c.text(2, loose)})
	}
	return text, partials
}

// TestP6SecondCompiler holds Compile against the second way on many templates.
func TestP6SecondCompiler(t *testing.T) {
	c := chooser{seed: 1}
	answers := map[int]int{}
	for range 20000 {
		text, partials := c.template()
		want, promised := compileAgain(text, partials)
		if !promised {
			continue
		}
		answers[want.Kind]++
		if made, fault := stencil.Compile(text, partials); fault != want || (made == nil) != (want.Code != api.OK) {
			t.Fatalf("P6: Compile(%q, %q): %t, %+v, want %+v", text, partials, made != nil, fault, want)
		}
	}
	for _, kind := range []int{0, api.Unclosed, api.BadName, api.Stray, api.Mismatch, api.Open, api.HolePlace, api.HoleAttr, api.HoleMid, api.Branch, api.Scheme, api.End} {
		if answers[kind] < 10 {
			t.Errorf("P6: of the templates only %d are answered by the kind %d", answers[kind], kind)
		}
	}
}
