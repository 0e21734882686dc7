package expr

import (
	"slices"

	"warehouse/api"
)

// Columns returns the names of all columns in a list of nodes, in ascending
// order (P8.7).
func Columns(e []api.Node) []string {
	var names []string
	for _, n := range e {
		if n.Op == api.OpColumn {
			names = append(names, n.Name)
		}
	}
	slices.Sort(names)
	return slices.Compact(names)
}

// Rename returns a list of nodes in which each column with a name from the list
// from has the name from the same place of to. The first such place counts, and
// a column for which to is too short keeps its name (P8.7).
func Rename(e []api.Node, from, to []string) []api.Node {
	names := map[string]string{}
	for i, name := range from[:min(len(from), len(to))] {
		if _, ok := names[name]; !ok {
			names[name] = to[i]
		}
	}
	renamed := slices.Clone(e)
	for i, n := range e {
		if name, ok := names[n.Name]; ok && n.Op == api.OpColumn {
			renamed[i].Name = name
		}
	}
	return renamed
}
