// Package path: paths: see DOC.md, chapter 1.
package path

import (
	"math"
	"strconv"
	"strings"

	"aviary/api"
)

// A name's bytes: what is beyond them is no plain sign.
const (
	firstByte = 33
	lastByte  = 126
)

// The numbers that Number takes: the greatest has just so many digits.
const (
	maxNumber = math.MaxInt32
	digits    = 10
)

// Good tells whether one may be.
func Good(p string) bool { return len(Parts(p)) > 0 }

// Parts tells its names.
func Parts(p string) []string {
	// The length comes first: a text of any length is then told in few steps.
	if len(p) > api.MaxPath || !strings.HasPrefix(p, "/") {
		return nil
	}
	names := strings.Split(p[1:], "/")
	if !goodNames(names) {
		return nil
	}
	return names
}

// Join makes one of names.
func Join(names ...string) (string, api.Errno) {
	// Each name is asked by itself: one with a / would pass for two.
	if !goodNames(names) {
		return "", api.EARG
	}
	p := "/" + strings.Join(names, "/")
	if !Good(p) {
		return "", api.EARG
	}
	return p, api.OK
}

// Parent tells what it is under.
func Parent(p string) (string, bool) {
	if len(Parts(p)) < 2 {
		return "", false
	}
	return p[:strings.LastIndexByte(p, '/')], true
}

// Name tells its last name.
func Name(p string) string {
	names := Parts(p)
	if len(names) == 0 {
		return ""
	}
	return names[len(names)-1]
}

// Top tells its first name.
func Top(p string) string {
	names := Parts(p)
	if len(names) == 0 {
		return ""
	}
	return names[0]
}

// Within tells whether one is under another, or it.
func Within(p, top string) bool {
	if !Good(p) || !Good(top) {
		return false
	}
	// The / keeps names whole: /ab is not within /a.
	return strings.HasPrefix(p+"/", top+"/")
}

// Number puts a number behind one.
func Number(p string, n int) (string, api.Errno) {
	if !Good(p) || n < 0 || n > maxNumber {
		return "", api.EARG
	}
	s := strconv.Itoa(n)
	numbered := p + strings.Repeat("0", digits-len(s)) + s
	if !Good(numbered) {
		return "", api.EARG
	}
	return numbered, api.OK
}

// goodNames tells whether a path may have these names, its length aside.
func goodNames(names []string) bool {
	if len(names) == 0 || len(names) > api.MaxDepth {
		return false
	}
	for _, name := range names {
		if !goodName(name) {
			return false
		}
	}
	return true
}

// goodName tells whether a name may be.
func goodName(name string) bool {
	if name == "" || len(name) > api.MaxName || name == "." || name == ".." {
		return false
	}
	for i := range len(name) {
		if name[i] < firstByte || name[i] > lastByte || name[i] == '/' {
			return false
		}
	}
	return true
}
