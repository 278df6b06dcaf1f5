package keys

import (
	"cmp"
	"testing"
)

func TestOf(t *testing.T) {
	for _, c := range []struct {
		text string
		key  Key
	}{
		{"a", Key{'a'}}, {"zz", Key{'z', 'z'}}, {"abc", Key{'a', 'b', 'c'}}, {"abcd", Key{'a', 'b', 'c', 'd'}},
	} {
		k := Of(c.text)
		if k != c.key || k.IsNone() || k.Len() != len(c.text) {
			t.Errorf("Of(%q) = %v, none %v, length %d", c.text, k, k.IsNone(), k.Len())
		}
	}
}

func TestOfNone(t *testing.T) {
	for _, text := range []string{"", "abcde", "A", "aB", "a\x00", "\x00", "\x00\x00\x00\x00", "`", "{", "é", "abc{", "a b"} {
		if k := Of(text); !k.IsNone() {
			t.Errorf("Of(%q) = %v", text, k)
		}
	}
}

// Texts are the same just if their keys are ==.
func TestKeysAreTold(t *testing.T) {
	texts := []string{"a", "aa", "aaa", "aaaa", "b", "ab", "ba", "aab", "aaab", "baaa"}
	for _, one := range texts {
		for _, other := range texts {
			if (Of(one) == Of(other)) != (one == other) {
				t.Errorf("Of(%q) == Of(%q) is %v", one, other, Of(one) == Of(other))
			}
		}
	}
}

func TestText(t *testing.T) {
	for _, text := range []string{"a", "zz", "abc", "abcd"} {
		if got := Of(text).Text(); got != text {
			t.Errorf("Of(%q).Text() = %q", text, got)
		}
	}
}

func TestCompare(t *testing.T) {
	rising := []string{"a", "aa", "aaaa", "aaab", "ab", "abz", "b", "ba", "z", "zaaa", "zz", "zzzz"}
	for i, one := range rising {
		for k, other := range rising {
			if got, want := Compare(Of(one), Of(other)), cmp.Compare(i, k); got != want {
				t.Errorf("Compare(%q, %q) = %d, want %d", one, other, got, want)
			}
		}
	}
}
