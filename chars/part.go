package chars

import (
	"strings"

	"abacus/api"
	"abacus/scan"
)

// shifted: a copy of s with the 26 letters from low on made those from other on.
func shifted(s string, low byte, other byte) string {
	var out strings.Builder
	out.Grow(len(s))
	for i := range len(s) {
		c := s[i]
		if low <= c && c < low+26 {
			c += other - low
		}
		out.WriteByte(c)
	}
	return out.String()
}

// words: the longest runs of bytes that are no blanks.
func words(s string) []string {
	var parts []string
	for at := 0; at < len(s); {
		end := at
		for end < len(s) && !scan.Blank(s[end]) {
			end++
		}
		if end > at {
			parts = append(parts, s[at:end])
		}
		at = end + 1
	}
	return parts
}

// single: the bytes of s, each as a text.
func single(s string) []string {
	parts := make([]string, len(s))
	for i := range parts {
		parts[i] = s[i : i+1]
	}
	return parts
}

// length: how many bytes Join makes, or some number above MaxText: it goes no further then, so that no sum is too great for an int.
func length(parts []string, sep string) int {
	size := 0
	for i, p := range parts {
		if i > 0 {
			size += len(sep)
		}
		size += len(p)
		if size > api.MaxText {
			break
		}
	}
	return size
}

// places: how often old stands in s, none overlapping the one before; of the empty text by bytes, not by runes.
func places(s string, old string) int {
	if old == "" {
		return len(s) + 1
	}
	return strings.Count(s, old)
}

// tooLong: whether so many bytes and count times each more are above MaxText. It divides, since the product of two lengths may be too great for an int.
func tooLong(kept int, count int, each int) bool {
	return kept > api.MaxText || count > 0 && each > (api.MaxText-kept)/count
}
