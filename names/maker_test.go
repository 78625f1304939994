package names_test

import (
	"math/rand"
	"reflect"
	"slices"
	"strconv"

	"metronome/api"
	"metronome/tree"
)

// maker makes programs at random in which every name is there, once.
type maker struct {
	*rand.Rand
	p     api.Program
	ctors []string
}

func pick[T any](m *maker, l []T) T { return l[m.Intn(len(l))] }

func (m *maker) program() api.Program {
	m.p, m.ctors = api.Program{}, []string{"true", "false"}
	for i := range 1 + m.Intn(3) {
		t := api.Enum{Name: "t" + strconv.Itoa(i)}
		for range 1 + m.Intn(3) {
			t.Ctors = append(t.Ctors, "C"+strconv.Itoa(len(m.ctors)))
			m.ctors = append(m.ctors, "C"+strconv.Itoa(len(m.ctors)))
		}
		m.p.Enums = append(m.p.Enums, t)
	}
	m.p.Nodes = []api.Node{{Name: "f"}}
	for i := range 1 + m.Intn(3) {
		m.p.Nodes = append(m.p.Nodes, m.node("f"+strconv.Itoa(i)))
	}
	m.Shuffle(len(m.p.Nodes), func(i, j int) { m.p.Nodes[i], m.p.Nodes[j] = m.p.Nodes[j], m.p.Nodes[i] })
	return m.p
}

func (m *maker) node(name string) api.Node {
	n := api.Node{Name: name}
	var s sight
	for range m.Intn(3) {
		v := m.variable(s)
		s = s.and(v, false)
		n.Ins = append(n.Ins, v)
	}
	var must []string
	for range m.Intn(4) {
		v := m.variable(s)
		s = s.and(v, true)
		n.Outs = append(n.Outs, v)
		must = append(must, v.Name)
	}
	n.B = m.block(s, must, m.Intn(4))
	return n
}

// variable is one that isn't visible yet.
func (m *maker) variable(s sight) api.Var {
	v := api.Var{T: pick(m, []api.Type{{Kind: api.TBool}, {Kind: api.TInt}, {Kind: api.TEnum, Name: pick(m, m.p.Enums).Name}}), Last: m.Intn(3) == 0}
	for v.Name == "" || s.sees(v.Name) {
		v.Name = "v" + strconv.Itoa(m.Intn(40))
	}
	if v.Last {
		v.First = m.expr(s, 2)
	}
	return v
}

// block is one that defines what it must, and its own variables.
func (m *maker) block(s sight, must []string, deep int) api.Block {
	var b api.Block
	must = slices.Clone(must)
	for range m.Intn(3) {
		v := m.variable(s)
		s = s.and(v, true)
		b.Vars = append(b.Vars, v)
		must = append(must, v.Name)
	}
	for i := range b.Vars {
		for range m.Intn(3) / 2 * (1 + m.Intn(2)) {
			b.Vars[i].Clock = append(b.Vars[i].Clock, api.On{Ctor: pick(m, m.ctors), Var: pick(m, s.vars).Name})
		}
	}
	m.Shuffle(len(must), func(i, j int) { must[i], must[j] = must[j], must[i] })
	for len(must) > 0 || m.Intn(4) == 0 {
		n := min(len(must), m.Intn(4))
		b.Eqs = append(b.Eqs, m.eq(s, must[:n], deep))
		must = must[n:]
	}
	return b
}

// eq is an equation that defines just what it must.
func (m *maker) eq(s sight, must []string, deep int) api.Equation {
	q := api.Equation{Kind: api.QCall + byte(m.Intn(4))}
	if deep == 0 || m.Intn(3) == 0 {
		q.Kind = api.QCall
	}
	if len(must) == 1 && m.Intn(3) == 0 {
		q.Kind = api.QDef
	}
	switch q.Kind {
	case api.QDef:
		q.Lhs, q.E = slices.Clone(must), m.expr(s, 4)
	case api.QCall:
		q.Lhs, q.Name, q.Has = slices.Clone(must), pick(m, m.p.Nodes).Name, m.Intn(2) == 0
		for range m.Intn(3) {
			q.Args = append(q.Args, m.expr(s, 3))
		}
		if q.Has {
			q.E = m.expr(s, 3)
		}
	case api.QReset:
		q.Arms, q.E = []api.Arm{{B: m.block(s, must, deep-1)}}, m.expr(s, 3)
	case api.QSwitch:
		q.E = m.expr(s, 3)
		q.Arms = m.arms(s, must, deep)
	case api.QAuto:
		q.Arms = m.arms(s, must, deep)
		m.states(s, q.Arms)
	}
	return q
}

// arms are some of which one defines all that it must, and the others all but for what has a last value.
func (m *maker) arms(s sight, must []string, deep int) []api.Arm {
	l := make([]api.Arm, 1+m.Intn(3))
	whole := m.Intn(len(l))
	for i := range l {
		part := slices.DeleteFunc(slices.Clone(must), func(name string) bool {
			return i != whole && s.hasLast(name) && m.Intn(2) == 0
		})
		l[i] = api.Arm{Name: pick(m, m.ctors), B: m.block(s, part, deep-1)}
	}
	return l
}

// states makes arms states, by names and transitions. Those in Until see the variables of their block too.
func (m *maker) states(s sight, l []api.Arm) {
	for i := range l {
		l[i].Name = "S" + strconv.Itoa(i)
	}
	ways := func(s sight) []api.Trans {
		ways := make([]api.Trans, m.Intn(3))
		for i := range ways {
			ways[i] = api.Trans{E: m.expr(s, 3), To: pick(m, l).Name, Resume: m.Intn(2) == 0}
		}
		return ways
	}
	for i := range l {
		l[i].Unless = ways(s)
		within := s
		for _, v := range l[i].B.Vars {
			within = within.and(v, true)
		}
		l[i].Until = ways(within)
	}
}

func (m *maker) expr(s sight, deep int) api.Expr {
	kid := func() api.Expr { return m.expr(s, deep-1) }
	kind := api.EInt + byte(m.Intn(5))
	if deep > 1 && m.Intn(4) > 0 {
		kind = api.EUn + byte(m.Intn(8))
	}
	e := api.Expr{Kind: kind}
	lasts := slices.DeleteFunc(slices.Clone(s.vars), func(v api.Var) bool { return !v.Last })
	switch {
	case kind == api.ECtor:
		e.Name = pick(m, pick(m, m.p.Enums).Ctors)
	case kind == api.ELast && len(lasts) > 0:
		e.Name = pick(m, lasts).Name
	case kind == api.EVar && len(s.vars) > 0:
		e.Name = pick(m, s.vars).Name
	case kind == api.EUn || kind == api.EPre:
		e.Kids = []api.Expr{kid()}
	case kind == api.EBin || kind == api.EFby || kind == api.EArrow:
		e.Kids = []api.Expr{kid(), kid()}
	case kind == api.EIf:
		e.Kids = []api.Expr{kid(), kid(), kid()}
	case kind == api.EWhen && len(s.vars) > 0:
		return tree.When(kid(), api.On{Ctor: pick(m, m.ctors), Var: pick(m, s.vars).Name})
	case kind == api.EMerge && len(s.vars) > 0:
		e.Name = pick(m, s.vars).Name
		for range 1 + m.Intn(3) {
			e.Names, e.Kids = append(e.Names, pick(m, m.ctors)), append(e.Kids, kid())
		}
	default:
		return tree.Int(int32(m.Intn(9)))
	}
	return e
}

// parts visits all that a value consists of, each part ahead of those within it.
func parts(v reflect.Value, visit func(reflect.Value)) {
	visit(v)
	switch v.Kind() {
	case reflect.Struct:
		for i := range v.NumField() {
			parts(v.Field(i), visit)
		}
	case reflect.Slice:
		for i := range v.Len() {
			parts(v.Index(i), visit)
		}
	}
}

// place gives each part of a program a position of its own.
func place(p *api.Program) {
	at := 0
	parts(reflect.ValueOf(p).Elem(), func(v reflect.Value) {
		if v.Type() == reflect.TypeFor[api.Pos]() {
			at++
			v.Set(reflect.ValueOf(api.Pos{Line: at, Col: at%7 + 1}))
		}
	})
}

// change changes one thing in a program: a name, or whether a variable has a last value; or one of a list goes away, or is there twice, or changes places with another.
func (m *maker) change(p *api.Program) {
	var texts, flags, lists []reflect.Value
	parts(reflect.ValueOf(p).Elem(), func(v reflect.Value) {
		switch v.Kind() {
		case reflect.String:
			texts = append(texts, v)
		case reflect.Bool:
			flags = append(flags, v)
		case reflect.Slice:
			if v.Len() > 0 && v.Type() != reflect.TypeFor[[]api.Expr]() {
				lists = append(lists, v)
			}
		}
	})
	switch n := m.Intn(8); {
	case n == 0 && len(flags) > 0:
		v := pick(m, flags)
		v.SetBool(!v.Bool())
	case n <= 3 && len(lists) > 0:
		m.changeList(pick(m, lists))
	default:
		pick(m, texts).SetString(pick(m, texts).String())
	}
}

func (m *maker) changeList(v reflect.Value) {
	i, j, n := m.Intn(v.Len()), m.Intn(v.Len()), v.Len()
	l := reflect.MakeSlice(v.Type(), 0, n+1)
	for k := range n {
		l = reflect.Append(l, v.Index(k))
	}
	switch m.Intn(3) {
	case 0:
		l = reflect.AppendSlice(l.Slice3(0, i, i), l.Slice(i+1, n))
	case 1:
		l = reflect.Append(l, v.Index(i))
	case 2:
		l.Index(i).Set(v.Index(j))
		l.Index(j).Set(v.Index(i))
	}
	v.Set(l)
}

// wellFormed: is there one variable to each definition, one arm to each reset, and one constructor to each sampling?
func wellFormed(p api.Program) bool {
	right := true
	parts(reflect.ValueOf(p), func(v reflect.Value) {
		switch x := v.Interface().(type) {
		case api.Equation:
			right = right && (x.Kind != api.QDef || len(x.Lhs) == 1) && (x.Kind != api.QReset || len(x.Arms) == 1)
		case api.Expr:
			right = right && (x.Kind != api.EWhen || len(x.Names) == 1) && (x.Kind != api.EMerge || len(x.Names) == len(x.Kids))
		}
	})
	return right
}
