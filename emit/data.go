package emit

import "tandem/api"

// restOf is the Rest that counts: none, or one datum.
func restOf(d api.Datum) []api.Datum {
	if d.Kind != api.List || len(d.Rest) == 0 {
		return nil
	}
	return d.Rest[:1]
}

// isDeeper tells whether a datum is more than that deep; it is one deep itself.
func isDeeper(d api.Datum, deep int) bool {
	if deep == 0 {
		return true
	}
	switch d.Kind {
	case api.List, api.Vector, api.Cond:
		return anyDeeper(d.Items, deep-1) || anyDeeper(restOf(d), deep-1)
	}
	return false
}

func anyDeeper(data []api.Datum, deep int) bool {
	for _, d := range data {
		if isDeeper(d, deep) {
			return true
		}
	}
	return false
}

// copied is a datum in new memory. What is no part of a datum may be deeper than calls go, so lists in which the lists are still the old ones are kept in a list.
func copied(d api.Datum) api.Datum {
	all := []api.Datum{d}
	old := [][]api.Datum{all}
	for len(old) > 0 {
		row := old[len(old)-1]
		old = old[:len(old)-1]
		for i := range row {
			at := &row[i]
			at.Num.Mag = fresh(at.Num.Mag)
			at.Items = fresh(at.Items)
			at.Rest = fresh(at.Rest)
			old = appendFull(old, at.Items, at.Rest)
		}
	}
	return all[0]
}

// appendFull appends those lists that are not empty.
func appendFull(all [][]api.Datum, lists ...[]api.Datum) [][]api.Datum {
	for _, l := range lists {
		if len(l) > 0 {
			all = append(all, l)
		}
	}
	return all
}

func fresh[T any](l []T) []T {
	if len(l) == 0 {
		return nil
	}
	return append(make([]T, 0, len(l)), l...)
}
