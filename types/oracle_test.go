package types_test

import (
	"maps"
	"slices"
	"strings"

	"jacquard/api"
	"jacquard/parser"
)

// plan returns the row of the chapter's tables for a node: what is checked, and typed, in this order. A Kid is the next one each time.
func plan(n api.Node) string {
	switch n.Kind {
	case api.NodeNumber:
		return "number"
	case api.NodeName:
		return "name:scalar,variable own:named"
	case api.NodeRecv:
		return "name:in own:named"
	case api.NodeIndex:
		return "name:array index own:named"
	case api.NodeCall:
		return "call own:named"
	case api.NodeUnary:
		if n.Op == api.SrcIsZero {
			return "kid:u1 own:u1"
		}
		return "kid:wanted own:kid"
	case api.NodeBinary:
		switch {
		case n.Op <= api.SrcShr:
			return "alike:wanted own:kid"
		case n.Op <= api.SrcGe:
			return "closed alike:none own:u1"
		}
		return "kid:u1 kid:u1 own:u1"
	case api.NodeCond:
		return "kid:u1 alike:wanted own:kid"
	case api.NodeCast:
		return "loose:type own:type"
	case api.NodeVar:
		return "kid:type declare:variable"
	case api.NodeLet:
		return "kid:type let declare:scalar"
	case api.NodeAssign:
		return "name:variable kid:named"
	case api.NodeStore:
		return "name:array index kid:named"
	case api.NodeFor:
		return "limits kid:type kid:type declare:scalar"
	case api.NodeWhile:
		return "limits kid:u1"
	case api.NodeIf:
		return "kid:u1"
	case api.NodeSend:
		return "name:out kid:named"
	case api.NodeReturn:
		return "return kid:result"
	}
	return ""
}

// fault is a node's line with the error of the rule that the node violates.
type fault struct {
	line int
	e    api.Errno
}

// meaning is what a name stands for.
type meaning struct {
	kind   string
	ofType api.Type
}

// judge knows the units of a program.
type judge struct {
	functions map[string]api.Node
	unit      api.Node
	calls     map[string]map[string]bool
}

// visit is the state of going through the plan of a node.
type visit struct {
	*judge
	n          *api.Node
	scope      map[string]meaning
	wanted     api.Type
	named, kid api.Type // the types of the name, and of the Kid that was typed last
	next       int
	fault      fault
}

func (v *visit) fail(e api.Errno) { v.fault = fault{v.n.Line, e} }

// leaves returns the expressions whose types decide on that of an expression.
func leaves(n api.Node) []api.Node {
	switch {
	case n.Kind == api.NodeUnary && n.Op != api.SrcIsZero:
		return leaves(n.Kids[0])
	case n.Kind == api.NodeBinary && n.Op <= api.SrcShr:
		return append(leaves(n.Kids[0]), leaves(n.Kids[1])...)
	case n.Kind == api.NodeCond:
		return append(leaves(n.Kids[1]), leaves(n.Kids[2])...)
	}
	return []api.Node{n}
}

// flexible reports whether an expression is open: nothing but numbers decides on its type.
func flexible(n api.Node) bool {
	return !slices.ContainsFunc(leaves(n), func(leaf api.Node) bool { return leaf.Kind != api.NodeNumber || leaf.Type.Width != 0 })
}

// typeFor returns the type with a name in a plan.
func (v *visit) typeFor(name string) api.Type {
	return map[string]api.Type{"u1": {Width: 1}, "wanted": v.wanted, "type": v.n.Type, "named": v.named, "kid": v.kid, "result": v.unit.Type}[name]
}

// expr types an expression in a scope.
func (j *judge) expr(n *api.Node, wanted api.Type, scope map[string]meaning) (api.Type, fault) {
	v := visit{judge: j, n: n, scope: scope, wanted: wanted}
	if wanted.Width == 0 && flexible(*n) {
		v.fail(api.ErrType)
	} else {
		v.follow()
	}
	if v.fault.e == api.OK && wanted.Width > 0 && n.Type != wanted {
		v.fail(api.ErrType)
	}
	return n.Type, v.fault
}

// follow goes through the plan of a node up to the first rule that is violated.
func (v *visit) follow() {
	for _, step := range strings.Fields(plan(*v.n)) {
		rule, arg, _ := strings.Cut(step, ":")
		v.step(rule, arg)
		if v.fault.e != api.OK {
			return
		}
	}
}

func (v *visit) step(rule, arg string) {
	switch rule {
	case "kid":
		v.typeKid(v.typeFor(arg))
	case "own":
		v.n.Type = v.typeFor(arg)
	case "let":
		v.n.Type = v.kid
	case "alike":
		v.alike(v.typeFor(arg))
	case "closed":
		if flexible(v.n.Kids[0]) && flexible(v.n.Kids[1]) {
			v.fail(api.ErrType)
		}
	case "loose":
		v.loose(v.n.Type)
	case "index":
		if v.loose(api.Type{Width: 32}); v.fault.e == api.OK && v.kid.Signed {
			v.fail(api.ErrType)
		}
	case "limits":
		if v.n.Pipeline > 256 || v.n.Unroll > 64 {
			v.fail(api.ErrLimit)
		}
	case "number":
		v.number()
	case "call":
		v.call()
	default:
		v.name(rule, arg)
	}
}

// name performs the steps that have to do with the name of the node, and return.
func (v *visit) name(rule, arg string) {
	m, visible := v.scope[v.n.Name]
	switch rule {
	case "name":
		if !visible || !slices.Contains(strings.Split(arg, ","), m.kind) {
			v.fail(api.ErrName)
		}
		v.named = m.ofType
	case "declare":
		if visible {
			v.fail(api.ErrName)
		}
		v.scope[v.n.Name] = meaning{arg, v.n.Type}
	case "return":
		body := v.unit.Kids[len(v.unit.Kids)-1].Kids
		if v.unit.Type.Width == 0 || &body[len(body)-1] != v.n {
			v.fail(api.ErrType)
		}
	}
}

// typeKid types the next Kid, if there is one.
func (v *visit) typeKid(wanted api.Type) {
	if v.next < len(v.n.Kids) {
		v.kid, v.fault = v.expr(&v.n.Kids[v.next], wanted, v.scope)
		v.next++
	}
}

func (v *visit) loose(wanted api.Type) {
	if flexible(v.n.Kids[v.next]) {
		v.typeKid(wanted)
	} else {
		v.typeKid(api.Type{})
	}
}

func (v *visit) alike(wanted api.Type) {
	order := []int{v.next, v.next + 1}
	if wanted.Width == 0 && flexible(v.n.Kids[v.next]) {
		slices.Reverse(order)
	}
	for _, v.next = range order {
		if v.typeKid(wanted); v.fault.e != api.OK {
			return
		}
		wanted = v.kid
	}
}

func (v *visit) number() {
	if v.n.Type.Width == 0 {
		v.n.Type = v.wanted
		if v.wanted.Width < 64 && v.n.Num >= uint64(1)<<v.wanted.Width {
			v.fail(api.ErrType)
		}
	}
}

func (v *visit) call() {
	f, ok := v.functions[v.n.Name]
	if !ok {
		v.fail(api.ErrName)
		return
	}
	v.calls[v.unit.Name][f.Name] = true
	v.named = f.Type
	params := f.Kids[:len(f.Kids)-1]
	if len(params) != len(v.n.Kids) {
		v.fail(api.ErrType)
	}
	for _, p := range params {
		if v.fault.e == api.OK {
			v.typeKid(p.Type)
		}
	}
}

// block checks a block, or an if behind else, in a scope, which does not get the block's names.
func (j *judge) block(n *api.Node, scope map[string]meaning) fault {
	if n.Kind == api.NodeIf {
		return j.statement(n, scope)
	}
	inner := maps.Clone(scope)
	for i := range n.Kids {
		if f := j.statement(&n.Kids[i], inner); f.e != api.OK {
			return f
		}
	}
	return fault{}
}

func (j *judge) statement(n *api.Node, scope map[string]meaning) fault {
	if n.Kind == api.NodeFor {
		scope = maps.Clone(scope)
	}
	v := visit{judge: j, n: n, scope: scope}
	v.follow()
	for i := range n.Kids {
		if k := &n.Kids[i]; v.fault.e == api.OK && !isExpr(*k) {
			v.fault = j.block(k, scope)
		}
	}
	return v.fault
}

// checkUnit checks a function or a kernel.
func (j *judge) checkUnit(n *api.Node) fault {
	j.unit = *n
	j.calls[n.Name] = map[string]bool{}
	scope := map[string]meaning{}
	counts := map[string]int{}
	last := len(n.Kids) - 1
	for _, p := range n.Kids[:last] {
		kind := map[int]string{api.NodeParam: "scalar", api.NodeArray: "array", api.NodeIn: "in", api.NodeOut: "out"}[p.Kind]
		counts[kind]++
		if tooMany := counts["array"] > 64 || counts["in"]+counts["out"] > 64; tooMany || p.Kind == api.NodeArray && !bankable(p) {
			return fault{p.Line, api.ErrLimit}
		}
		if _, ok := scope[p.Name]; ok {
			return fault{p.Line, api.ErrName}
		}
		scope[p.Name] = meaning{kind, p.Type}
	}
	if f := j.block(&n.Kids[last], scope); f.e != api.OK {
		return f
	}
	body := n.Kids[last].Kids
	if n.Type.Width > 0 && (len(body) == 0 || body[len(body)-1].Kind != api.NodeReturn) {
		return fault{n.Line, api.ErrType}
	}
	return fault{}
}

// bankable reports whether an array has a length and a number of banks that are within the limits.
func bankable(p api.Node) bool {
	banks, most := uint64(1), min(p.Num, 64)
	switch p.Op {
	case api.Cyclic, api.Blocks:
		banks = uint64(p.Factor)
	case api.Complete:
		banks = p.Num
	}
	return 0 < banks && banks <= most && p.Num <= 4096
}

// oracle returns what Check has to return.
func oracle(n api.Node) (api.Node, int, api.Errno) {
	if !parser.Valid(n) {
		return api.Node{}, 0, api.ErrForm
	}
	tree := changed(n, func(n *api.Node) {
		if isExpr(*n) && n.Kind != api.NodeCast && !(n.Kind == api.NodeNumber && n.Type == api.Type{Width: 1}) {
			n.Type = api.Type{}
		}
	})
	if f := checkProgram(&tree); f.e != api.OK {
		return api.Node{}, f.line, f.e
	}
	return tree, 0, api.OK
}

func checkProgram(tree *api.Node) fault {
	j := &judge{functions: map[string]api.Node{}, calls: map[string]map[string]bool{}}
	kernels := 0
	for i, n := range tree.Kids {
		if n.Kind == api.NodeKernel {
			kernels++
		} else if _, ok := j.functions[n.Name]; !ok {
			j.functions[n.Name] = n
		}
		if kernels > 1 || slices.ContainsFunc(tree.Kids[:i], func(earlier api.Node) bool { return earlier.Name == n.Name }) {
			return fault{n.Line, api.ErrName}
		}
	}
	if kernels == 0 {
		return fault{tree.Line, api.ErrName}
	}
	for i := range tree.Kids {
		if f := j.checkUnit(&tree.Kids[i]); f.e != api.OK {
			return f
		}
	}
	for via := range j.functions {
		for _, called := range j.calls {
			if called[via] {
				maps.Copy(called, j.calls[via])
			}
		}
	}
	for _, n := range tree.Kids {
		if j.calls[n.Name][n.Name] {
			return fault{n.Line, api.ErrRecursion}
		}
	}
	return fault{}
}
