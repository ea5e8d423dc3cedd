package face

import (
	"regexp"
	"strconv"
	"strings"

	"carling/api"
)

// pattern is the form of a line: its name, and all behind it.
var pattern = regexp.MustCompile(`^([a-z][a-z0-9_]{0,11}\.[a-z][a-z0-9_]{0,11})( (pub|sec)([1-9]|1[0-6])?){0,6} : (pub|sec)$`)

// isText tells whether a text is a list's, without reading it.
func isText(s string) bool {
	if s == "" {
		return true
	}
	l := strings.Split(s, "\n")
	last := len(l) - 1
	if l[last] != "" {
		return false
	}
	var names []string
	for _, line := range l[:last] {
		found := pattern.FindStringSubmatch(line)
		if found == nil {
			return false
		}
		names = append(names, found[1])
	}
	return !hasTwice(names)
}

// hasTwice tells whether one of some names stands twice.
func hasTwice(names []string) bool {
	for i := range names {
		for j := range i {
			if names[i] == names[j] {
				return true
			}
		}
	}
	return false
}

// fullName is the form of a signature's name.
var fullName = regexp.MustCompile(`\A[a-z][a-z0-9_]{0,11}\.[a-z][a-z0-9_]{0,11}\z`)

// errorOf is what Text must answer of a list.
func errorOf(l []api.Sig) api.Errno {
	var names []string
	for _, sig := range l {
		fine := fullName.MatchString(sig.Name) && len(sig.Params) < 7
		for _, p := range sig.Params {
			fine = fine && strings.Contains(" 0 1 2 3 4 5 6 7 8 9 10 11 12 13 14 15 16 ", " "+strconv.Itoa(p.Len)+" ")
		}
		if !fine {
			return api.ErrForm
		}
		names = append(names, sig.Name)
	}
	if hasTwice(names) {
		return api.ErrTwice
	}
	return api.OK
}
