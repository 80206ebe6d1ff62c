package answer

// small gives a name, whole, with small letters. The lengths in it stay as
// they are: none is as great as a letter.
func small(name string) string {
	var b []byte
	for i := 0; i < len(name); i++ {
		c := name[i]
		if c >= 'A' && c <= 'Z' {
			c = c + 'a' - 'A'
		}
		b = append(b, c)
	}
	return string(b)
}

// isWithin tells whether a name is another one or below it; both are whole.
func isWithin(name, other string) bool {
	// From label to label: the bytes of other may stand within a label too.
	for at := 0; at < len(name); at = at + 1 + int(name[at]) {
		if name[at:] == other {
			return true
		}
	}
	return false
}
