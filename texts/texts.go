// Package texts: texts that the tests of several layers try.
package texts

// All is each text of at most n bytes of those of alphabet, the shorter ones first.
func All(alphabet string, n int) []string {
	l := []string{""}
	from := 0
	for range n {
		to := len(l)
		for _, s := range l[from:to] {
			for i := range len(alphabet) {
				l = append(l, s+alphabet[i:i+1])
			}
		}
		from = to
	}
	return l
}

// Altered is s with each of the pieces in place of what stands there, at each place, be it nothing or up to n bytes.
func Altered(s string, n int, pieces ...string) (l []string) {
	for from := range len(s) + 1 {
		for to := from; to <= min(from+n, len(s)); to++ {
			for _, piece := range pieces {
				l = append(l, s[:from]+piece+s[to:])
			}
		}
	}
	return l
}
