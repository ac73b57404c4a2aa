package interp_test

import (
	"reflect"
	"testing"

	"jacquard/api"
	"jacquard/interp"
	"jacquard/parser"
)

// checkNoRun reports a run that does not end with an error.
func checkNoRun(t *testing.T, n api.Node, env api.Env, e api.Errno) {
	t.Helper()
	if got := interp.Fits(n, env); got != e {
		t.Errorf("Fits(%.500v, %v) = %d, not %d", n, env, got, e)
	}
	for _, fuel := range []int{-1, 0, 1, plenty} {
		if out, got := interp.Run(n, env, fuel); got != e || !reflect.DeepEqual(out, api.Outcome{}) {
			t.Errorf("Run(%.500v, %v, %d) = %v, %d, not %d", n, env, fuel, out, got, e)
		}
	}
}

// P6.1: trees that are not typed, with environments that fit or not.
func TestNotTyped(t *testing.T) {
	typed := mustType("kernel k(x: u8, a: u8[2], q: in u8) -> u8 { let v = x + 1; return v; }")
	env := api.Env{Scalars: []uint64{1}, Arrays: [][]uint64{{1, 2}}, Ins: [][]uint64{{3}}}
	list := []api.Node{{}, {Kind: api.NodeProgram}, {Kind: -1}, {Kind: api.NodeRecv, Name: "q"}, mainOf(typed), parser.Bare(typed)}
	for _, source := range []string{
		"kernel k(x: u8, a: u8[2], q: in u8) { x = 1; }", "kernel k(x: u8, a: u8[2], q: in u8) -> u8 { }", "kernel k(x: u8, a: u8[2], q: in u8) { let v = 1; }",
		"fn f() -> u8 { return f(); } kernel k(x: u8, a: u8[2], q: in u8) { }", "kernel k(x: u8, a: u8[2], q: in u8) { } kernel l() { }", "fn f() -> u8 { return 1; }", "",
	} {
		n, _, e := parser.Parse(source)
		if e != api.OK {
			t.Fatal(source, e)
		}
		list = append(list, n)
	}
	wrong := mustType("kernel k(x: u8, a: u8[2], q: in u8) -> u8 { let v = x + 1; return v; }")
	last := len(wrong.Kids[0].Kids) - 1
	wrong.Kids[0].Kids[last].Kids[1].Kids[0].Type.Signed = true
	twice := api.Node{Kind: api.NodeProgram, Kids: []api.Node{mainOf(typed), mainOf(typed)}}
	list = append(list, wrong, twice)
	for _, n := range list {
		for _, given := range []api.Env{env, {}, {Scalars: []uint64{256}}} {
			checkNoRun(t, n, given, api.ErrForm)
		}
		if zero := interp.Zero(n); !reflect.DeepEqual(zero, api.Env{}) {
			t.Errorf("Zero(%.500v) = %v", n, zero)
		}
	}
	if e := interp.Fits(typed, env); e != api.OK {
		t.Errorf("Fits is %d", e)
	}
}

// P6.1: environments that do not fit, each because of one place, of which some are at the end of a list.
func TestFits(t *testing.T) {
	n := mustType("kernel k(q: in u8, x: u8, a: u3[2], o: out u64, y: s64, b: s1[1] complete, p: in s3, z: u1) { }")
	good := func() api.Env {
		return api.Env{Scalars: []uint64{255, ^uint64(0), 1}, Arrays: [][]uint64{{7, 0}, {1}}, Ins: [][]uint64{{0, 255, 1}, {}, {7}}}
	}
	accepted := []func(env *api.Env){
		func(*api.Env) {}, func(env *api.Env) { env.Ins[0] = nil }, func(env *api.Env) { env.Ins[1] = nil }, func(env *api.Env) { env.Ins[2] = []uint64{} },
		func(env *api.Env) { env.Ins[0] = make([]uint64, 5000) }, func(env *api.Env) { env.Ins[1] = append([]uint64{9}, 9)[:0] }, func(env *api.Env) { env.Scalars[1] = 1 << 63 },
	}
	for i, change := range accepted {
		env := good()
		change(&env)
		if e := interp.Fits(n, env); e != api.OK {
			t.Errorf("%d: %v is %d", i, env, e)
		}
		if out := run(t, n, env, 0); out.Status != api.Done || !reflect.DeepEqual(lists(out.Arrays), lists(env.Arrays)) {
			t.Errorf("%d: %v", i, out)
		}
	}
	rejected := []func(env *api.Env){
		func(env *api.Env) { *env = api.Env{} },
		func(env *api.Env) { env.Scalars = nil }, func(env *api.Env) { env.Scalars = env.Scalars[:2] }, func(env *api.Env) { env.Scalars = append(env.Scalars, 0) },
		func(env *api.Env) { env.Scalars[0] = 256 }, func(env *api.Env) { env.Scalars[2] = 2 }, func(env *api.Env) { env.Scalars[2] = 1 << 63 },
		func(env *api.Env) { env.Arrays = nil }, func(env *api.Env) { env.Arrays = env.Arrays[:1] }, func(env *api.Env) { env.Arrays = append(env.Arrays, nil) },
		func(env *api.Env) { env.Arrays[0] = env.Arrays[0][:1] }, func(env *api.Env) { env.Arrays[0] = append(env.Arrays[0], 0) }, func(env *api.Env) { env.Arrays[1] = nil }, func(env *api.Env) { env.Arrays[1] = []uint64{0, 0} }, func(env *api.Env) { env.Arrays[0], env.Arrays[1] = env.Arrays[1], env.Arrays[0] },
		func(env *api.Env) { env.Arrays[0][1] = 8 }, func(env *api.Env) { env.Arrays[0][0] = ^uint64(0) }, func(env *api.Env) { env.Arrays[1][0] = 2 },
		func(env *api.Env) { env.Ins = nil }, func(env *api.Env) { env.Ins = env.Ins[:2] }, func(env *api.Env) { env.Ins = append(env.Ins, nil) }, func(env *api.Env) { env.Ins = [][]uint64{env.Ins[0], env.Ins[2]} },
		func(env *api.Env) { env.Ins[0][2] = 256 }, func(env *api.Env) { env.Ins[2][0] = 8 }, func(env *api.Env) { env.Ins[2] = append(env.Ins[2], 9) }, func(env *api.Env) { env.Ins[1] = []uint64{0} },
	}
	for _, change := range rejected {
		env := good()
		change(&env)
		checkNoRun(t, n, env, api.ErrArg)
	}
	checkNoRun(t, mustType("kernel k() { }"), good(), api.ErrArg)
}

// P6.1: words of each width, the greatest one and one more.
func TestFitsWords(t *testing.T) {
	for w := 1; w <= api.MaxWidth; w++ {
		for _, ofType := range signs(w) {
			param := func(kind int, name string) api.Node { return api.Node{Kind: kind, Name: name, Type: ofType} }
			array := param(api.NodeArray, "a")
			array.Num = 1
			n := api.Node{Kind: api.NodeProgram, Kids: []api.Node{{Kind: api.NodeKernel, Name: "k", Kids: []api.Node{param(api.NodeParam, "x"), array, param(api.NodeIn, "q"), {Kind: api.NodeBlock}}}}}
			for place := range 3 {
				for _, x := range []uint64{1<<w - 1, 1 << w} {
					env := api.Env{Scalars: []uint64{0}, Arrays: [][]uint64{{0}}, Ins: [][]uint64{{0}}}
					[][]uint64{env.Scalars, env.Arrays[0], env.Ins[0]}[place][0] = x
					want := api.OK
					if w < 64 && x == 1<<w {
						want = api.ErrArg
					}
					if e := interp.Fits(n, env); e != want {
						t.Errorf("%v, %v: %d, not %d", ofType, env, e, want)
					}
				}
			}
		}
	}
}

// P6.1
func TestZero(t *testing.T) {
	for source, want := range map[string]api.Env{
		"kernel k() { }":         {},
		"kernel k(x: u8) { }":    {Scalars: []uint64{0}},
		"kernel k(a: s9[3]) { }": {Arrays: [][]uint64{{0, 0, 0}}},
		"kernel k(q: in u8) { }": {Ins: [][]uint64{nil}},
		"fn f(a: u8, b: u8) -> u8 { return a; } kernel k(o: out u8, x: s64, a: u1[2] cyclic 2, q: in u8, y: u1, b: u64[1], p: out s3, r: in s3) -> u8 { return f(1, 2); }": {Scalars: []uint64{0, 0}, Arrays: [][]uint64{{0, 0}, {0}}, Ins: [][]uint64{nil, nil, nil, nil}},
	} {
		n := mustType(source)
		got := interp.Zero(n)
		if !reflect.DeepEqual(copied(got), want) {
			t.Errorf("%s: %v, not %v", source, got, want)
		}
		if e := interp.Fits(n, got); e != api.OK {
			t.Errorf("%s: %v does not fit", source, got)
		}
	}
	for _, s := range samples(4, 200) {
		if zero := interp.Zero(s.program); interp.Fits(s.program, zero) != api.OK {
			t.Fatalf("%s: %v does not fit", s.source, zero)
		}
	}
}
