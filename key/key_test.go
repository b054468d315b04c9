package key_test

import (
	"slices"
	"strings"
	"testing"

	"plenum/api"
	"plenum/key"
)

const letters = "abcdefghijklmnopqrstuvwxyz0123456789-./_"

var (
	longest = strings.Repeat("z", 24)
	tooLong = longest + "a"
)

// keys are in ascending order.
var keys = []string{"-", ".", "/", "0", "9", "_", "a", "a-", "a/", "a/1", "a/12", "a//", "aa", "ab", "a_", "b", "p", "q", "z", longest}

func init() { slices.Sort(keys) }

// noPatterns are neither keys nor empty.
var noPatterns = []string{"A", "Z", "a b", "a\x00", "\x00", "a\n", "ü", "a\xff", "\x80", "{", "`", ",", ":", "@", "a{", "a,b", tooLong, strings.Repeat("a", 1000)}

// P8.1
func TestIs(t *testing.T) {
	for c := range 256 {
		want := strings.IndexByte(letters, byte(c)) >= 0
		for _, s := range []string{string([]byte{byte(c)}), string([]byte{'a', byte(c)}), string([]byte{byte(c), 'a'})} {
			if key.Is(s) != want || key.Pattern(s) != want {
				t.Errorf("Is(%q) = %v, Pattern = %v", s, key.Is(s), key.Pattern(s))
			}
		}
	}
	for _, k := range keys {
		if !key.Is(k) || !key.Pattern(k) {
			t.Errorf("%q is no key", k)
		}
	}
	for _, s := range noPatterns {
		if key.Is(s) || key.Pattern(s) {
			t.Errorf("%q is a key", s)
		}
	}
	if key.Is("") || !key.Pattern("") {
		t.Error("the empty string")
	}
}

// P8.1
func TestUnder(t *testing.T) {
	for _, k := range keys {
		for _, p := range append(keys, "") {
			if key.Under(k, p) != strings.HasPrefix(k, p) {
				t.Errorf("Under(%q, %q) = %v", k, p, key.Under(k, p))
			}
		}
	}
	for _, s := range noPatterns {
		if key.Under(s, "") || key.Under(s, s[:1]) || key.Under("a", s) || key.Under(s, s) {
			t.Errorf("Under with %q", s)
		}
	}
	if key.Under("", "") || key.Under("", "a") {
		t.Error("the empty string is under something")
	}
}

// P8.1
func TestBucket(t *testing.T) {
	for k, want := range map[string]int{"a": 1, "p": 0, "q": 1, "z": 10, "0": 0, "9": 9, "-": 13, ".": 14, "/": 15, "_": 15, "a/zz": 1, "bq": 2, "": -1, "A": -1, tooLong: -1, longest: 10} {
		if n := key.Bucket(k); n != want {
			t.Errorf("Bucket(%q) = %d, want %d", k, n, want)
		}
	}
	for _, s := range noPatterns {
		if key.Bucket(s) != -1 {
			t.Errorf("Bucket(%q) = %d", s, key.Bucket(s))
		}
	}
}

// P8.2, P8.6
func TestParts(t *testing.T) {
	for k, want := range map[string][]string{
		"a": {"a"}, "a/1": {"a", "1"}, "a//b": {"a", "", "b"}, "/": {"", ""}, "//": {"", "", ""}, "/a": {"", "a"}, "a/": {"a", ""}, "x/y/z": {"x", "y", "z"},
	} {
		if l := key.Parts(k); !slices.Equal(l, want) {
			t.Errorf("Parts(%q) = %q", k, l)
		}
		if got, e := key.Join(want); got != k || e != api.OK {
			t.Errorf("Join(%q) = %q, %d", want, got, e)
		}
	}
	for _, s := range append(noPatterns, "", "A/b", "/"+tooLong) {
		if l := key.Parts(s); len(l) != 0 {
			t.Errorf("Parts(%q) = %q", s, l)
		}
	}
	for _, k := range keys {
		if got, e := key.Join(key.Parts(k)); got != k || e != api.OK {
			t.Errorf("Join(Parts(%q)) = %q, %d", k, got, e)
		}
	}
}

// P8.2
func TestJoin(t *testing.T) {
	if k, e := key.Join([]string{"a/b", "c"}); k != "a/b/c" || e != api.OK {
		t.Errorf("Join = %q, %d", k, e)
	}
	if k, e := key.Join([]string{longest[:12], longest[:11]}); k != longest[:12]+"/"+longest[:11] || e != api.OK {
		t.Errorf("Join of 24 bytes = %q, %d", k, e)
	}
	for _, l := range [][]string{nil, {""}, {"A"}, {"a", "B"}, {longest, ""}, {longest[:12], longest[:12]}, {"a b"}} {
		if k, e := key.Join(l); k != "" || e != api.ErrForm {
			t.Errorf("Join(%q) = %q, %d", l, k, e)
		}
	}
}

// P8.3
func TestIn(t *testing.T) {
	for _, k := range keys {
		for _, from := range append(keys, "") {
			for _, to := range append(keys, "") {
				want := k >= from && (to == "" || k < to)
				if key.In(k, from, to) != want {
					t.Errorf("In(%q, %q, %q) = %v", k, from, to, !want)
				}
			}
		}
	}
	for _, s := range noPatterns {
		if key.In(s, "", "") || key.In("b", s, "") || key.In("b", "", s) || key.In("b", s, s) {
			t.Errorf("In with %q", s)
		}
	}
	if key.In("", "", "") || key.In("", "", "a") {
		t.Error("the empty string is in a range")
	}
}

// P8.3
func TestAfter(t *testing.T) {
	for _, k := range keys {
		if s := key.After(k); s != k+"\x00" {
			t.Errorf("After(%q) = %q", k, s)
		}
	}
	for _, s := range append(noPatterns, "") {
		if got := key.After(s); got != "" {
			t.Errorf("After(%q) = %q", s, got)
		}
	}
}

// P8.4
func TestRange(t *testing.T) {
	for p, to := range map[string]string{"": "", "a/": "a0", "a": "b", "z": "{", "a9": "a:", "a_": "a`", "-": ".", longest: longest[1:] + "{"} {
		if f, got, e := key.Range(p); f != p || got != to || e != api.OK {
			t.Errorf("Range(%q) = %q, %q, %d", p, f, got, e)
		}
	}
	for _, s := range noPatterns {
		if f, to, e := key.Range(s); f != "" || to != "" || e != api.ErrForm {
			t.Errorf("Range(%q) = %q, %q, %d", s, f, to, e)
		}
	}
}

// P8.5
func TestMeet(t *testing.T) {
	for _, a := range append(keys, "") {
		for _, b := range append(keys, "") {
			want := strings.HasPrefix(a, b) || strings.HasPrefix(b, a)
			if key.Meet(a, b) != want {
				t.Errorf("Meet(%q, %q) = %v", a, b, !want)
			}
		}
	}
	for _, s := range noPatterns {
		if key.Meet(s, "") || key.Meet("", s) || key.Meet(s, s) || key.Meet(s[:1], s) || key.Meet(s, s[:1]) {
			t.Errorf("Meet with %q", s)
		}
	}
}

// P8.5
func TestOverlap(t *testing.T) {
	ends := []string{"a0", "b", "{", "z{", "a:", "`", ":", longest[1:] + "{"}
	for _, p := range append(keys, "") {
		_, end, _ := key.Range(p)
		for _, from := range append(keys, "") {
			for _, to := range slices.Concat(keys, ends, []string{""}) {
				want := (end == "" || end > from) && (to == "" || to > p)
				if key.Overlap(from, to, p) != want {
					t.Errorf("Overlap(%q, %q, %q) = %v", from, to, p, !want)
				}
			}
		}
	}
	for _, s := range noPatterns {
		if key.Overlap(s, "", "") || key.Overlap("", "", s) {
			t.Errorf("Overlap with %q", s)
		}
	}
	for _, to := range []string{"A", "a\x00", "a,", "|", "a|", "a{{", "{a", "\x00", "\xff", tooLong, longest + "{", "\xff\x00"} {
		if key.Overlap("", to, "") {
			t.Errorf("a range ends at %q", to)
		}
	}
}

// P8.6
func TestUnderIsIn(t *testing.T) {
	for _, k := range keys {
		for _, p := range append(keys, "") {
			from, to, _ := key.Range(p)
			if under := k >= from && (to == "" || k < to); under != key.Under(k, p) {
				t.Errorf("%q is under %q: %v, in its range: %v", k, p, !under, under)
			}
		}
	}
}
