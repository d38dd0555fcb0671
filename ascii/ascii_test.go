package ascii

import (
	"strings"
	"testing"
)

func TestKinds(t *testing.T) {
	const letters = "abcdefghijklmnopqrstuvwxyzABCDEFGHIJKLMNOPQRSTUVWXYZ"
	for n := range 256 {
		b := byte(n)
		if want := strings.IndexByte(letters, b) >= 0; Letter(b) != want {
			t.Errorf("Letter(%q) = %t", b, !want)
		}
		if want := strings.IndexByte("0123456789", b) >= 0; Digit(b) != want {
			t.Errorf("Digit(%q) = %t", b, !want)
		}
		if want := Small(string([]byte{b})); want != string([]byte{SmallByte(b)}) {
			t.Errorf("SmallByte(%q) = %q, want %q", b, SmallByte(b), want)
		}
	}
}

func TestSmall(t *testing.T) {
	for _, c := range [][2]string{
		{"", ""}, {"a", "a"}, {"AZaz@[`{09", "azaz@[`{09"}, {"\u212aÄ\xc1", "\u212aÄ\xc1"},
	} {
		if s := Small(c[0]); s != c[1] {
			t.Errorf("Small(%q) = %q, want %q", c[0], s, c[1])
		}
	}
}
