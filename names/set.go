package names

// set is a set of names.
type set map[string]struct{}

func (s set) has(name string) bool {
	_, ok := s[name]
	return ok
}

// add puts a name into the set; false: it was there.
func (s set) add(name string) bool {
	if s.has(name) {
		return false
	}
	s[name] = struct{}{}
	return true
}

// once is a list of names, each once, in the order in which they were added first.
type once struct {
	list []string
	seen set
}

func (o *once) has(name string) bool { return o.seen.has(name) }

// add puts a name at the end of the list; false: it was there.
func (o *once) add(name string) bool {
	if o.seen == nil {
		o.seen = set{}
	}
	if !o.seen.add(name) {
		return false
	}
	o.list = append(o.list, name)
	return true
}

// without is the list without some of its names.
func (o *once) without(some set) once {
	var rest once
	for _, name := range o.list {
		if !some.has(name) {
			rest.add(name)
		}
	}
	return rest
}
