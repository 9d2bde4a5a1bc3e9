package files

import (
	"iter"
	"strings"

	"syngraph/api"
)

// Name tells whether s is a name.
func Name(s string) bool {
	if len(s) > api.MaxName {
		return false
	}
	for _, part := range strings.Split(s, "/") {
		if !isPart(part) {
			return false
		}
	}
	return true
}

// isPart tells whether s is a part of a name. The two that are none would mean another directory than they say.
func isPart(s string) bool {
	for k := range len(s) {
		if !inNames(s[k]) {
			return false
		}
	}
	return s != "" && s != "." && s != ".."
}

// inNames tells whether a part may have a byte.
func inNames(c byte) bool {
	switch c {
	case '.', '_', '-':
		return true
	}
	return c >= 'a' && c <= 'z' || c >= '0' && c <= '9'
}

// directories tells each directory in which a name lies, the outermost first, but for that of all names.
func directories(name string) iter.Seq[string] {
	return func(yield func(string) bool) {
		for k := range len(name) {
			if name[k] == '/' && !yield(name[:k]) {
				return
			}
		}
	}
}

// beginning tells what all names that lie in a directory begin with, and no others.
func beginning(dir string) string {
	if dir == "" {
		return ""
	}
	return dir + "/"
}

// firstPart tells the first part of what a name goes on with, with the slash behind it, if there is one.
func firstPart(s string) string {
	if k := strings.IndexByte(s, '/'); k >= 0 {
		return s[:k+1]
	}
	return s
}
