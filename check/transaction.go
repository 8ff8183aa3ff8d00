package check

import (
	"slices"

	"orderly/api"
)

const lastRegister = 3

func transaction(t api.Txn) bool {
	return keys(t.Reads) && keys(t.Writes) && ranges(t.Ranges) && code(t)
}

func keys(list []int) bool {
	if len(list) > api.MaxKeys {
		return false
	}
	for _, k := range list {
		if !key(k) {
			return false
		}
	}
	return true
}

func ranges(list []api.Range) bool {
	if len(list) > api.MaxRanges {
		return false
	}
	for _, r := range list {
		if !key(r.Lo) || !key(r.Hi) || r.Lo > r.Hi {
			return false
		}
	}
	return true
}

func code(t api.Txn) bool {
	if len(t.Code) > api.MaxCode {
		return false
	}
	for at := range t.Code {
		if !instruction(t, at) {
			return false
		}
	}
	return true
}

// instruction looks only at the fields that the kind uses: the others may be any numbers.
func instruction(t api.Txn, at int) bool {
	i := t.Code[at]
	switch i.Kind {
	case api.Const:
		return register(i.A)
	case api.Get:
		return register(i.A) && (slices.Contains(t.Reads, i.B) || slices.Contains(t.Writes, i.B))
	case api.Put:
		return slices.Contains(t.Writes, i.A) && register(i.B)
	case api.Delete:
		return slices.Contains(t.Writes, i.A)
	case api.Sum, api.Count:
		return register(i.A) && within(i.B, 0, len(t.Ranges)-1)
	case api.Add, api.Sub:
		return register(i.A) && register(i.B) && register(i.C)
	case api.Jump:
		// Jumps lead forward only, so every transaction ends.
		return register(i.A) && register(i.B) && within(i.C, at+1, len(t.Code))
	case api.Abort:
		return true
	}
	return false
}

func key(n int) bool { return within(n, 0, api.MaxKey) }

func register(n int) bool { return within(n, 0, lastRegister) }
