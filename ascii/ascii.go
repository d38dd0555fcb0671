// Package ascii: the kinds of bytes that the document has words for.
package ascii

// Blanks are the bytes that the document calls so.
const Blanks = "\t\n\f\r "

// Hex are the bytes that the document calls so.
const Hex = "0123456789abcdefABCDEF"

// Letter tells if b is a to z or A to Z.
func Letter(b byte) bool {
	return 'a' <= b && b <= 'z' || upper(b)
}

// Digit tells if b is 0 to 9.
func Digit(b byte) bool {
	return '0' <= b && b <= '9'
}

// SmallByte is b, but of A to Z its small letter.
func SmallByte(b byte) byte {
	if upper(b) {
		b += 'a' - 'A'
	}
	return b
}

// Small is the text in which A to Z are a to z. All else stays, because Unicode
// has other letters (the Kelvin sign) whose small forms are among a to z.
func Small(text string) string {
	small := make([]byte, len(text))
	for at := range len(text) {
		small[at] = SmallByte(text[at])
	}
	return string(small)
}

func upper(b byte) bool {
	return 'A' <= b && b <= 'Z'
}
