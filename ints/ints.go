// Package ints reads the strings of lists of integers that layer 2 writes.
package ints

import (
	"strconv"
	"strings"
)

// Split returns the integers of the string of a list; false, if s is no such string. It takes only what layer 2 writes: no sign before 0 or a positive number, no 0 before other digits, a comma behind every number.
func Split(s string) ([]int, bool) {
	var l []int
cut:
	for s != "" {
		digits, rest, found := strings.Cut(s, ",")
		n, err := strconv.Atoi(digits)
		if !found || err != nil || strconv.Itoa(n) != digits {
			break cut
		}
		l = append(l, n)
		s = rest
	}
	if s != "" {
		return nil, false
	}
	return l, true
}
