package filter

import "herald/api"

func goodName(name string) bool {
	if len(name) < 1 || len(name) > api.MaxName {
		return false
	}
	for i := range len(name) {
		if name[i] < 'a' || name[i] > 'z' {
			return false
		}
	}
	return true
}

func goodValue(v api.Value) bool {
	switch v.Kind {
	case api.Flag:
		if v.N != 0 && v.N != 1 {
			return false
		}
		// But for its two numbers a flag is as free as an Int.
		fallthrough
	case api.Int:
		return v.S == ""
	case api.Text:
		return v.N == 0 && len(v.S) <= api.MaxText
	}
	return false
}

func goodWant(w api.Want) bool {
	if !goodName(w.Name) {
		return false
	}
	switch w.Way {
	case api.Any:
		return w.Value == api.Value{}
	case api.Equal, api.Other:
		return goodValue(w.Value)
	case api.Less, api.LessEq, api.More, api.MoreEq:
		return w.Value.Kind == api.Int && goodValue(w.Value)
	case api.Prefix, api.Suffix, api.Part:
		return w.Value.Kind == api.Text && goodValue(w.Value)
	}
	return false
}
