package files

import (
	"bytes"

	"syngraph/api"
	"syngraph/wire"
)

// Image tells the image of files, if these are right.
func Image(files map[string][]byte) ([]byte, api.Errno) {
	if e := wrong(files); e != api.OK {
		return nil, e
	}
	return imageOf(files), api.OK
}

// wrong tells what is wrong with files.
func wrong(files map[string][]byte) api.Errno {
	if len(files) > api.MaxFiles {
		return api.ErrMany
	}
	for name := range files {
		if !Name(name) {
			return api.ErrName
		}
	}
	for name := range files {
		if clashes(name, files) {
			return api.ErrClash
		}
	}
	return api.OK
}

// clashes tells whether a file stands where a name needs a directory.
func clashes(name string, files map[string][]byte) bool {
	for dir := range directories(name) {
		if _, is := files[dir]; is {
			return true
		}
	}
	return false
}

// imageOf tells the image of files that are right.
func imageOf(files map[string][]byte) []byte {
	var o wire.Out
	o.Int(len(files))
	for _, name := range namesOf(files) {
		o.Text(name).Bytes(files[name])
	}
	return o.All()
}

// filesIn tells the files whose image this is; false, if it is that of no right ones.
func filesIn(image []byte) (map[string][]byte, bool) {
	i := wire.NewIn(image)
	files := map[string][]byte{}
	for range i.Count(0, api.MaxFiles) {
		name := i.Text(api.MaxName)
		files[name] = i.Bytes(len(image))
	}
	// Files have one image: if this isn't that of what was read, it is that of none.
	again, e := Image(files)
	return files, e == api.OK && bytes.Equal(image, again)
}
