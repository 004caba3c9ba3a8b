package catalog

import (
	"strings"

	"rootstock/api"
	"rootstock/codec"
)

// What the keys of versions, and of branches, begin with, and the first texts behind all that begin so.
const (
	ofVersion      = "V"
	behindVersions = "W"
	ofBranch       = "H"
	behindBranches = "I"
)

// wide is how many bytes a number has.
const wide = 4

// reader is a tree of keys that is read: by who just asks, or by who is about to change something.
type reader interface {
	Get(key string) (string, bool, api.Errno)
	Scan(from, to string) ([]api.Entry, api.Errno)
}

// one is what the entry of a key tells, or the error that says that there is none.
func one[T any](keys reader, key string, none api.Errno, read func(api.Entry) (T, bool)) (T, api.Errno) {
	var zero T
	value, there, err := keys.Get(key)
	switch {
	case err != api.OK:
		return zero, err
	case !there:
		return zero, none
	}
	x, ok := read(api.Entry{Key: key, Value: value})
	if !ok {
		return zero, api.ErrCorrupt
	}
	return x, api.OK
}

// all are what all entries tell with keys from from on, below to.
func all[T any](keys reader, from, to string, read func(api.Entry) (T, bool)) ([]T, api.Errno) {
	entries, err := keys.Scan(from, to)
	if err != api.OK {
		return nil, err
	}
	var l []T
	for _, e := range entries {
		x, ok := read(e)
		if !ok {
			return nil, api.ErrCorrupt
		}
		l = append(l, x)
	}
	return l, api.OK
}

// version is that with an ID. A number that is no ID has no key.
func version(keys reader, id int) (api.Version, api.Errno) {
	if !isID(id) {
		return api.Version{}, api.ErrVersion
	}
	return one(keys, versionKey(id), api.ErrVersion, readVersion)
}

// branch is that with a name. A text that is no name has no key.
func branch(keys reader, name string) (api.Branch, api.Errno) {
	if !Name(name) {
		return api.Branch{}, api.ErrBranch
	}
	return one(keys, ofBranch+name, api.ErrBranch, readBranch)
}

// branches are all.
func branches(keys reader) ([]api.Branch, api.Errno) {
	return all(keys, ofBranch, behindBranches, readBranch)
}

// isID tells whether a number may be a version's.
func isID(n int) bool {
	return 1 <= n && n <= api.MaxVersions
}

// versionKey is the key of an ID.
func versionKey(id int) string {
	text, _ := numbers(id)
	return ofVersion + text
}

// versionEntry is the entry of a version; false, if there may be none like that.
func versionEntry(v api.Version) (api.Entry, bool) {
	value, fit := numbers(v.Parent, v.Root, v.Edges)
	if !fit || !isID(v.ID) || v.Parent > api.MaxVersions {
		return api.Entry{}, false
	}
	return api.Entry{Key: versionKey(v.ID), Value: value}, true
}

// branchEntry is the entry of a branch; false, if there may be none like that.
func branchEntry(b api.Branch) (api.Entry, bool) {
	value, _ := numbers(b.Head)
	if !Name(b.Name) || !isID(b.Head) {
		return api.Entry{}, false
	}
	return api.Entry{Key: ofBranch + b.Name, Value: value}, true
}

// readVersion is the version of an entry. What was read is written again: an entry that is not just that is none of a version.
func readVersion(e api.Entry) (api.Version, bool) {
	r := codec.Read(strings.TrimPrefix(e.Key, ofVersion) + e.Value)
	v := api.Version{ID: r.Int(wide), Parent: r.Int(wide), Root: r.Int(wide), Edges: r.Int(wide)}
	if again, ok := versionEntry(v); !ok || again != e {
		return api.Version{}, false
	}
	return v, true
}

// readBranch is the branch of an entry, likewise.
func readBranch(e api.Entry) (api.Branch, bool) {
	b := api.Branch{Name: strings.TrimPrefix(e.Key, ofBranch), Head: codec.Read(e.Value).Int(wide)}
	if again, ok := branchEntry(b); !ok || again != e {
		return api.Branch{}, false
	}
	return b, true
}

// numbers are some numbers as bytes, one behind the other; false, if one of them does not fit.
func numbers(l ...int) (string, bool) {
	text := ""
	for _, n := range l {
		part, err := codec.Put(wide, n)
		if err != api.OK {
			return "", false
		}
		text += part
	}
	return text, true
}
