package stencil_test

import (
	"fmt"
	"html"
	"math"
	"net/url"
	"strconv"
	"strings"
	"testing"
	"unicode/utf8"
	"unsafe"

	"stencil/api"
	"stencil/stencil"
)

var ways = []int{api.AsText, api.AsFirst, api.AsLink, api.AsJs, api.AsCss}

// oddValues are texts of all that may be awkward: pairs of all bytes, and pieces of characters.
func oddValues() []string {
	odd := []string{"", "plain", "javascript:x", "HTTP://a/b?c#d", "\ufeff", "\ufffd", "\U0010ffff", "\u2027\u2028\u2029\u202a",
		"\xe2\x80", "\xe2\x80\xa8\x80", "\xed\xa0\x80", "\xf4\x90\x80\x80", "\xc0\x80", strings.Repeat("<\x00\xff", 5000)}
	for one := range 256 {
		for two := range 256 {
			odd = append(odd, string([]byte{byte(one), byte(two)}))
		}
	}
	return odd
}

func mustEscape(t *testing.T, as int, value string) string {
	t.Helper()
	out, err := stencil.Escape(as, value)
	if err != api.OK {
		t.Errorf("Escape(%d, %q): error %d", as, value, err)
	}
	return out
}

func TestP1EveryCallEnds(t *testing.T) {
	numbers := []int{math.MinInt, -1, 0, 1, 2, 3, 4, 5, 6, 7, math.MaxInt}
	for _, value := range oddValues() {
		stencil.Clean(value)
		for _, as := range numbers {
			stencil.Escape(as, value)
		}
	}
}

// TestP2NothingIsKept writes over a value behind the calls: answers that share
// its memory, and answers remembered for it, would change.
func TestP2NothingIsKept(t *testing.T) {
	for _, text := range []string{"a", "plain", "http:x", "mailto:", "a/b", "<\x00>"} {
		bytes := []byte(text)
		value := unsafe.String(unsafe.SliceData(bytes), len(bytes))
		calls := []func() string{func() string { return stencil.Clean(value) }}
		for _, as := range ways {
			calls = append(calls, func() string { return mustEscape(t, as, value) })
		}
		answers := make([]string, len(calls))
		copies := make([]string, len(calls))
		for i, call := range calls {
			answers[i] = call()
			copies[i] = strings.Clone(answers[i])
		}
		if string(bytes) != text {
			t.Errorf("P2: %q was written into: %q", text, bytes)
		}
		for i := range bytes {
			bytes[i] = '0'
		}
		zeros := strings.Repeat("0", len(text))
		for i, call := range calls {
			if answers[i] != copies[i] {
				t.Errorf("P2: call %d shares memory with %q", i, text)
			}
			if answer := call(); answer != zeros {
				t.Errorf("P2: call %d of %q, asked behind %q: %q", i, zeros, text, answer)
			}
		}
	}
}

func TestP3Clean(t *testing.T) {
	for _, c := range [][2]string{
		{"", ""},
		{"plain ÄÖ € 😀", "plain ÄÖ € 😀"},
		{"a\xff\x00", "a\ufffd\ufffd"},
		{"\x00\x00", "\ufffd\ufffd"},
		{"\x01\t\n\r\x1f\x7f", "\x01\t\n\r\x1f\x7f"},
		{"\ufffd", "\ufffd"},
		{"\u0080\u07ff\u0800\uffff\U00010000\U0010ffff", "\u0080\u07ff\u0800\uffff\U00010000\U0010ffff"},
		{"\x80\xbf", "\ufffd\ufffd"},
		{"\xc3", "\ufffd"},
		{"\xc3\xc3\xa4", "\ufffdä"},
		{"\xe2\x82x", "\ufffd\ufffdx"},
		{"\xf0\x9f\x98", "\ufffd\ufffd\ufffd"},
		{"\xc0\x80", "\ufffd\ufffd"},
		{"\xe0\x80\x80", "\ufffd\ufffd\ufffd"},
		{"\xed\xa0\x80", "\ufffd\ufffd\ufffd"},
		{"\xf4\x90\x80\x80", "\ufffd\ufffd\ufffd\ufffd"},
		{"\xf5\xfe\xff", "\ufffd\ufffd\ufffd"},
	} {
		if s := stencil.Clean(c[0]); s != c[1] {
			t.Errorf("P3: Clean(%q) = %q, want %q", c[0], s, c[1])
		}
	}
}

func TestP3CleanOfOddValues(t *testing.T) {
	for _, value := range oddValues() {
		var want []rune
		for _, char := range []rune(value) {
			if char == 0 {
				char = utf8.RuneError
			}
			want = append(want, char)
		}
		s := stencil.Clean(value)
		if s != string(want) {
			t.Errorf("P3: Clean(%q) = %q, want %q", value, s, string(want))
		}
		if again := stencil.Clean(s); again != s {
			t.Errorf("P3: Clean(%q) = %q, though it is clean", s, again)
		}
	}
}

func TestP4WrongWays(t *testing.T) {
	for _, as := range []int{0, 6, 7, -1, -5, 256, 257, 1<<32 + 1, math.MaxInt, math.MinInt} {
		for _, value := range []string{"", "a", "<\xff"} {
			if s, err := stencil.Escape(as, value); s != "" || err != api.ErrArg {
				t.Errorf("P4: Escape(%d, %q) = %q, %d, want ErrArg and nothing", as, value, s, err)
			}
		}
	}
}

// wantByte is what the document makes of a byte that is a character, but 0.
func wantByte(as int, b byte) string {
	char := string(rune(b))
	number := fmt.Sprintf("%02x", b)
	control := b < 32 || b == 127
	switch as {
	case api.AsText:
		named := map[string]string{"&": "&amp;", "<": "&lt;", ">": "&gt;", `"`: "&quot;", "'": "&#39;"}
		if text, ok := named[char]; ok {
			return text
		}
	case api.AsFirst, api.AsLink:
		const kept = "abcdefghijklmnopqrstuvwxyzABCDEFGHIJKLMNOPQRSTUVWXYZ0123456789-._~/?#[]@!$()*+,;="
		if !strings.Contains(kept, char) {
			return "%" + strings.ToUpper(number)
		}
	case api.AsJs:
		if control || strings.Contains("\"'&/<>\\`", char) {
			return `\x` + number
		}
	case api.AsCss:
		if control || strings.Contains("\"'&/<>\\", char) {
			return `\` + strconv.FormatInt(int64(b), 16) + " "
		}
	}
	return char
}

func TestP4EachByte(t *testing.T) {
	for _, as := range ways {
		for n := 1; n < 128; n++ {
			b := byte(n)
			want := wantByte(as, b)
			if s := mustEscape(t, as, string(rune(n))); s != want {
				t.Errorf("P4: Escape(%d, %q) = %q, want %q", as, b, s, want)
			}
			value, want := "1"+string(rune(n))+"z", "1"+want+"z"
			if s := mustEscape(t, as, value); s != want {
				t.Errorf("P4: Escape(%d, %q) = %q, want %q", as, value, s, want)
			}
		}
	}
}

func TestP4BeyondAscii(t *testing.T) {
	for _, c := range []struct {
		value string
		want  [5]string
	}{
		{"", [5]string{}},
		{"é", [5]string{"é", "%C3%A9", "%C3%A9", "é", "é"}},
		{"😀", [5]string{"😀", "%F0%9F%98%80", "%F0%9F%98%80", "😀", "😀"}},
		{"\u0080\u009f", [5]string{"\u0080\u009f", "%C2%80%C2%9F", "%C2%80%C2%9F", "\u0080\u009f", "\u0080\u009f"}},
		{"\x00", [5]string{"\ufffd", "%EF%BF%BD", "%EF%BF%BD", "\ufffd", "\ufffd"}},
		{"\xe2\x80", [5]string{"\ufffd\ufffd", "%EF%BF%BD%EF%BF%BD", "%EF%BF%BD%EF%BF%BD", "\ufffd\ufffd", "\ufffd\ufffd"}},
		{"\u2027", [5]string{"\u2027", "%E2%80%A7", "%E2%80%A7", "\u2027", "\u2027"}},
		{"\u2028", [5]string{"\u2028", "%E2%80%A8", "%E2%80%A8", `\u2028`, "\u2028"}},
		{"\u2029", [5]string{"\u2029", "%E2%80%A9", "%E2%80%A9", `\u2029`, "\u2029"}},
		{"\u202a", [5]string{"\u202a", "%E2%80%AA", "%E2%80%AA", "\u202a", "\u202a"}},
	} {
		for i, as := range ways {
			if s := mustEscape(t, as, c.value); s != c.want[i] {
				t.Errorf("P4: Escape(%d, %q) = %q, want %q", as, c.value, s, c.want[i])
			}
		}
	}
}

func TestP4FirstOfLink(t *testing.T) {
	for _, c := range [][2]string{
		{"http:", "http:"},
		{"http://a b:c", "http://a%20b%3Ac"},
		{"hTTpS://A/'", "hTTpS://A/%27"},
		{"MAILTO:a@b", "MAILTO:a@b"},
		{"http:javascript:x", "http:javascript%3Ax"},
		{"http::", "http:%3A"},
		{"https:\xff\x00é", "https:%EF%BF%BD%EF%BF%BD%C3%A9"},
		{"javascript:x", "#blocked"},
		{"JavaScript:", "#blocked"},
		{"data:text/html,<", "#blocked"},
		{"a:", "#blocked"},
		{"Z9+-.:x", "#blocked"},
		{"httpss:", "#blocked"},
		{"htt:", "#blocked"},
		{"http.:", "#blocked"},
		{"mailto+http:", "#blocked"},
		{"", ""},
		{"http", "http"},
		{"javascript", "javascript"},
		{"a/b:c", "a/b%3Ac"},
		{"a?b:c", "a?b%3Ac"},
		{"#a:b", "#a%3Ab"},
		{":http:", "%3Ahttp%3A"},
		{"1http:", "1http%3A"},
		{"+a:b", "+a%3Ab"},
		{"-a:b", "-a%3Ab"},
		{".a:b", ".a%3Ab"},
		{" http:a", "%20http%3Aa"},
		{"http :a", "http%20%3Aa"},
		{"java\tscript:x", "java%09script%3Ax"},
		{"a_b:c", "a_b%3Ac"},
		{"http\x00:a", "http%EF%BF%BD%3Aa"},
		{"http\xff:a", "http%EF%BF%BD%3Aa"},
		{"http\u017f:a", "http%C5%BF%3Aa"},
		{"é:a", "%C3%A9%3Aa"},
	} {
		if s := mustEscape(t, api.AsFirst, c[0]); s != c[1] {
			t.Errorf("P4: Escape(%d, %q) = %q, want %q", api.AsFirst, c[0], s, c[1])
		}
	}
}

func TestP4LinkHeedsNoScheme(t *testing.T) {
	for _, c := range [][2]string{{"http://a", "http%3A//a"}, {"javascript:x", "javascript%3Ax"}, {"#blocked", "#blocked"}} {
		if s := mustEscape(t, api.AsLink, c[0]); s != c[1] {
			t.Errorf("P4: Escape(%d, %q) = %q, want %q", api.AsLink, c[0], s, c[1])
		}
	}
}

func TestP4Examples(t *testing.T) {
	for _, c := range []struct {
		as          int
		value, want string
	}{
		{1, "a<b>&'", "a&lt;b&gt;&amp;&#39;"},
		{1, "&lt;", "&amp;lt;"},
		{2, "javascript:x", "#blocked"},
		{2, "http://a b:c", "http://a%20b%3Ac"},
		{2, "a/b:c", "a/b%3Ac"},
		{3, "100%25", "100%2525"},
		{4, `</a"`, `\x3c\x2fa\x22`},
		{4, "\\x3c\r\n", `\x5cx3c\x0d\x0a`},
		{5, "a<b", `a\3c b`},
		{5, "\\3c \n", `\5c 3c \a `},
	} {
		if s := mustEscape(t, c.as, c.value); s != c.want {
			t.Errorf("P4: Escape(%d, %q) = %q, want %q", c.as, c.value, s, c.want)
		}
	}
}

// undo takes the escapes of a place back.
func undo(t *testing.T, as int, text string) string {
	t.Helper()
	var out string
	var err error
	switch as {
	case api.AsText:
		out = html.UnescapeString(text)
	case api.AsFirst, api.AsLink:
		out, err = url.PathUnescape(text)
	case api.AsJs:
		out, err = strconv.Unquote(`"` + text + `"`)
	case api.AsCss:
		out = undoCss(text)
	}
	if err != nil {
		t.Errorf("what Escape(%d) gave can't be read: %q", as, text)
	}
	return out
}

func undoCss(text string) string {
	pieces := strings.Split(text, `\`)
	for i := 1; i < len(pieces); i++ {
		digits, rest, _ := strings.Cut(pieces[i], " ")
		number, _ := strconv.ParseUint(digits, 16, 8)
		pieces[i] = string(rune(number)) + rest
	}
	return strings.Join(pieces, "")
}

func TestP4UndoneIsClean(t *testing.T) {
	for _, value := range oddValues() {
		clean := stencil.Clean(value)
		for _, as := range ways {
			s := mustEscape(t, as, value)
			if as == api.AsFirst && s == "#blocked" {
				continue
			}
			if back := undo(t, as, s); back != clean {
				t.Errorf("P4: Escape(%d, %q) = %q says %q, want %q", as, value, s, back, clean)
			}
		}
	}
}
