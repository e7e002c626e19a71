package base_test

import (
	"strings"
	"testing"

	"tandem/api"
	"tandem/base"
	"tandem/show"
)

// TestInstructions: what each instruction does, in code that layer 9 need not make.
func TestInstructions(t *testing.T) {
	abc := []api.Datum{text("a"), text("b"), text("c"), {Kind: api.Bool}, whole(7)}
	list := func(n int) api.Ins { return op(api.OpPrim, 42, n) }
	for name, c := range map[string]struct {
		want string
		ins  []api.Ins
	}{
		"const":                  {`"b"`, []api.Ins{op(api.OpConst, 1), op(api.OpReturn)}},
		"local":                  {`("a" "b" "a" "b")`, []api.Ins{op(api.OpConst, 0), op(api.OpConst, 1), op(api.OpLocal, 0), op(api.OpLocal, 1), list(4), op(api.OpReturn)}},
		"pick":                   {`("a" "b" "a")`, []api.Ins{op(api.OpConst, 0), op(api.OpConst, 1), op(api.OpPick, 0), list(3), op(api.OpReturn)}},
		"define tells void":      {`#<void>`, []api.Ins{op(api.OpConst, 0), op(api.OpDefine, 0), op(api.OpReturn)}},
		"global":                 {`"a"`, []api.Ins{op(api.OpConst, 0), op(api.OpDefine, 1), op(api.OpPop), op(api.OpGlobal, 1), op(api.OpReturn)}},
		"define twice":           {`"b"`, []api.Ins{op(api.OpConst, 0), op(api.OpDefine, 0), op(api.OpConst, 1), op(api.OpDefine, 0), op(api.OpGlobal, 0), op(api.OpReturn)}},
		"set tells void":         {`#<void>`, []api.Ins{op(api.OpConst, 0), op(api.OpDefine, 0), op(api.OpConst, 1), op(api.OpSetGlo, 0), op(api.OpReturn)}},
		"box":                    {`"c"`, []api.Ins{op(api.OpConst, 2), op(api.OpBox), op(api.OpUnbox), op(api.OpReturn)}},
		"a box is Void":          {`#<void>`, []api.Ins{op(api.OpConst, 2), op(api.OpBox), op(api.OpReturn)}},
		"set box":                {`"b"`, []api.Ins{op(api.OpConst, 0), op(api.OpBox), op(api.OpPick, 0), op(api.OpConst, 1), op(api.OpSetBox), op(api.OpPop), op(api.OpUnbox), op(api.OpReturn)}},
		"set box tells void":     {`#<void>`, []api.Ins{op(api.OpConst, 0), op(api.OpBox), op(api.OpConst, 1), op(api.OpSetBox), op(api.OpReturn)}},
		"jump":                   {`"c"`, []api.Ins{op(api.OpJump, 3), op(api.OpConst, 0), op(api.OpReturn), op(api.OpConst, 2), op(api.OpReturn)}},
		"false goes":             {`"c"`, []api.Ins{op(api.OpConst, 3), op(api.OpFalse, 4), op(api.OpConst, 0), op(api.OpReturn), op(api.OpConst, 2), op(api.OpReturn)}},
		"true goes on":           {`"a"`, []api.Ins{op(api.OpConst, 4), op(api.OpFalse, 4), op(api.OpConst, 0), op(api.OpReturn), op(api.OpConst, 2), op(api.OpReturn)}},
		"a box is true":          {`"a"`, []api.Ins{op(api.OpConst, 3), op(api.OpBox), op(api.OpFalse, 5), op(api.OpConst, 0), op(api.OpReturn), op(api.OpConst, 2), op(api.OpReturn)}},
		"pop":                    {`"a"`, []api.Ins{op(api.OpConst, 0), op(api.OpConst, 1), op(api.OpPop), op(api.OpReturn)}},
		"slide":                  {`("a" "b")`, []api.Ins{op(api.OpConst, 0), op(api.OpConst, 2), op(api.OpConst, 2), op(api.OpConst, 1), op(api.OpSlide, 2), list(2), op(api.OpReturn)}},
		"slide by none":          {`("a" "b")`, []api.Ins{op(api.OpConst, 0), op(api.OpConst, 1), op(api.OpSlide, 0), list(2), op(api.OpReturn)}},
		"store":                  {`("c" "b")`, []api.Ins{op(api.OpConst, 0), op(api.OpConst, 1), op(api.OpConst, 2), op(api.OpStore, 0), list(2), op(api.OpReturn)}},
		"loop":                   {`"a"`, []api.Ins{op(api.OpConst, 0), op(api.OpLoop), op(api.OpReturn)}},
		"return passes over all": {`"c"`, []api.Ins{op(api.OpConst, 0), op(api.OpConst, 1), op(api.OpConst, 2), op(api.OpReturn)}},
	} {
		if got := told(base.Run(code(abc, c.ins...), ample())); got != "value "+c.want {
			t.Errorf("%s: %s, not %s", name, got, c.want)
		}
	}
}

// TestFrames: calls of closures, with values of their own.
func TestFrames(t *testing.T) {
	consts := []api.Datum{text("a"), text("b"), text("c"), procedure("list")}
	ps := []api.Proto{
		{Consts: consts, Code: []api.Ins{op(api.OpConst, 2), op(api.OpConst, 0), op(api.OpConst, 1), op(api.OpClosure, 1, 2), op(api.OpConst, 2), op(api.OpCall, 1), op(api.OpPrim, 42, 2), op(api.OpReturn)}},
		{Args: 1, Free: 2, Consts: consts, Code: []api.Ins{op(api.OpFree, 0), op(api.OpFree, 1), op(api.OpLocal, 0), op(api.OpPrim, 42, 3), op(api.OpReturn)}},
	}
	if got := told(base.Run(ps, ample())); got != `value ("c" ("a" "b" "c"))` {
		t.Error(got)
	}
	ps[1].Code = []api.Ins{op(api.OpConst, 3), op(api.OpFree, 1), op(api.OpFree, 0), op(api.OpTail, 2)}
	if got := told(base.Run(ps, ample())); got != `value ("c" ("b" "a"))` {
		t.Error(got)
	}
	// Of a Rest none, one, and more are left over.
	for n, want := range []string{`value ()`, `value ("a")`, `value ("a" "a")`} {
		ps := []api.Proto{{Consts: consts, Code: []api.Ins{op(api.OpClosure, 1)}}, {Rest: true, Code: []api.Ins{op(api.OpLocal, 0), op(api.OpReturn)}}}
		for range n {
			ps[0].Code = append(ps[0].Code, op(api.OpConst, 0))
		}
		ps[0].Code = append(ps[0].Code, op(api.OpTail, n))
		if got := told(base.Run(ps, ample())); got != want {
			t.Errorf("%s, not %s", got, want)
		}
	}
}

// TestTailOfTheProgram: what the program's first frame calls last answers in its place, a continuation of it too.
func TestTailOfTheProgram(t *testing.T) {
	consts := []api.Datum{procedure("call/cc"), procedure("vector"), whole(1)}
	if got := told(base.Run(code(consts, op(api.OpConst, 1), op(api.OpConst, 2), op(api.OpTail, 1)), ample())); got != "value #(1)" {
		t.Error(got)
	}
	ps := []api.Proto{
		{Consts: consts, Code: []api.Ins{op(api.OpConst, 0), op(api.OpClosure, 1), op(api.OpTail, 1)}},
		{Args: 1, Consts: consts, Code: []api.Ins{op(api.OpLocal, 0), op(api.OpConst, 2), op(api.OpCall, 1), op(api.OpPop), op(api.OpConst, 1), op(api.OpReturn)}},
	}
	if got := told(base.Run(ps, ample())); got != "value 1" {
		t.Error(got)
	}
	// Proto 0 may be called as any other.
	ps = code([]api.Datum{whole(1), {Kind: api.Bool}}, op(api.OpGlobal, 0), op(api.OpReturn))
	ps[0].Code = []api.Ins{op(api.OpConst, 1), op(api.OpConst, 0), op(api.OpDefine, 0), op(api.OpPop), op(api.OpClosure, 0), op(api.OpCall, 0), op(api.OpReturn)}
	if got := told(base.Run(ps, api.Limits{Words: 64, Fuel: 1000})); got != "memory" {
		t.Error(got)
	}
}

// TestWrongBoxes: what is no box is neither opened nor set.
func TestWrongBoxes(t *testing.T) {
	data := []api.Datum{whole(1), text("a"), {Kind: api.List, Items: []api.Datum{whole(1)}}, {Kind: api.Vector, Items: []api.Datum{whole(1)}}, {Kind: api.Symbol, Text: "a"}, undefined(), procedure("car"), {Kind: api.List}}
	for i, d := range data {
		for name, ins := range map[string][]api.Ins{
			"unbox": {op(api.OpConst, 0), op(api.OpUnbox), op(api.OpReturn)},
			"set":   {op(api.OpConst, 0), op(api.OpConst, 0), op(api.OpSetBox), op(api.OpReturn)},
		} {
			if got := told(base.Run(code([]api.Datum{d}, ins...), ample())); got != "bound" {
				t.Errorf("%s %d: %s", name, i, got)
			}
		}
	}
	closure := code(nil, op(api.OpClosure, 0), op(api.OpUnbox), op(api.OpReturn))
	if got := told(base.Run(closure, ample())); got != "bound" {
		t.Error(got)
	}
	// An undefined value in a box is asked for in vain, and may be set.
	consts := []api.Datum{undefined(), whole(5)}
	if got := told(base.Run(code(consts, op(api.OpConst, 0), op(api.OpBox), op(api.OpUnbox), op(api.OpReturn)), ample())); got != `raised #<condition unassigned "">` {
		t.Error(got)
	}
	if got := told(base.Run(code(consts, op(api.OpConst, 0), op(api.OpBox), op(api.OpPick, 0), op(api.OpConst, 1), op(api.OpSetBox), op(api.OpPop), op(api.OpUnbox), op(api.OpReturn)), ample())); got != "value 5" {
		t.Error(got)
	}
}

// TestUndefinedGlobal: a global may have the undefined value, which is one.
func TestUndefinedGlobal(t *testing.T) {
	ps := code([]api.Datum{undefined(), whole(5)}, op(api.OpConst, 0), op(api.OpDefine, 0), op(api.OpPop), op(api.OpConst, 1), op(api.OpSetGlo, 0), op(api.OpPop), op(api.OpGlobal, 0), op(api.OpReturn))
	if got := told(base.Run(ps, ample())); got != "value 5" {
		t.Error(got)
	}
	ps[0].Code = []api.Ins{op(api.OpConst, 0), op(api.OpDefine, 0), op(api.OpPop), op(api.OpGlobal, 0), op(api.OpReturn)}
	if got := told(base.Run(ps, ample())); got != "value #<void>" {
		t.Error(got)
	}
}

// TestConstants: how each constant is pushed.
func TestConstants(t *testing.T) {
	one := []api.Datum{whole(1)}
	deep := func(n int) api.Datum {
		d := whole(1)
		for range n - 1 {
			d = api.Datum{Kind: api.Vector, Items: []api.Datum{d}}
		}
		return d
	}
	long := func(limbs int) api.Datum {
		mag := make([]uint32, limbs, limbs+1)
		mag[limbs-1] = 1
		return api.Datum{Kind: api.Int, Num: api.Num{Mag: append(mag, 0)}}
	}
	for name, c := range map[string]struct {
		d    api.Datum
		want string
	}{
		"symbol":            {api.Datum{Kind: api.Symbol, Text: "a"}, "value a"},
		"marked symbol":     {api.Datum{Kind: api.Symbol, Text: "a", N: -1}, "value a"},
		"empty symbol":      {api.Datum{Kind: api.Symbol}, "value"},
		"undefined":         {undefined(), "value #<void>"},
		"undefined inside":  {api.Datum{Kind: api.Vector, Items: []api.Datum{undefined()}}, "value #()"},
		"void":              {api.Datum{Kind: api.Void}, "value #<void>"},
		"primitive":         {api.Datum{Kind: api.Proc, N: 0}, "value #<procedure>"},
		"control primitive": {api.Datum{Kind: api.Proc, N: 91}, "value #<procedure>"},
		"no primitive":      {api.Datum{Kind: api.Proc, N: 92}, "bound"},
		"below all":         {api.Datum{Kind: api.Proc, N: -1}, "bound"},
		"named procedure":   {api.Datum{Kind: api.Proc, Text: "f"}, "bound"},
		"procedure inside":  {api.Datum{Kind: api.List, Items: []api.Datum{{Kind: api.Proc}}}, "bound"},
		"condition":         {api.Datum{Kind: api.Cond, Text: "a", Items: one}, "bound"},
		"no kind":           {api.Datum{}, "bound"},
		"kind 11":           {api.Datum{Kind: 11}, "bound"},
		"bool 2":            {api.Datum{Kind: api.Bool, N: 2}, "bound"},
		"bool -1":           {api.Datum{Kind: api.Bool, N: -1}, "bound"},
		"char":              {api.Datum{Kind: api.Char, N: 65}, `value #\A`},
		"char 256":          {api.Datum{Kind: api.Char, N: 256}, "bound"},
		"char -1":           {api.Datum{Kind: api.Char, N: -1}, "bound"},
		"dotted":            {api.Datum{Kind: api.List, Items: one, Rest: one}, "value (1 . 1)"},
		"two rests":         {api.Datum{Kind: api.List, Items: one, Rest: []api.Datum{whole(1), whole(2)}}, "bound"},
		"rest alone":        {api.Datum{Kind: api.List, Rest: one}, "bound"},
		"wrong rest":        {api.Datum{Kind: api.List, Items: one, Rest: []api.Datum{{}}}, "bound"},
		"vector with rest":  {api.Datum{Kind: api.Vector, Items: one, Rest: []api.Datum{{}, {}}}, "value #(1)"},
		"100 deep":          {deep(100), "value " + strings.Repeat("#(", 99) + "1" + strings.Repeat(")", 99)},
		"101 deep":          {deep(101), "bound"},
		"long number":       {long(256), "value " + show.Write(long(256))},
		"too long number":   {long(257), "bound"},
		"text with parts":   {api.Datum{Kind: api.String, Text: "a", Items: []api.Datum{{}}, Rest: []api.Datum{{}, {}}}, `value "a"`},
	} {
		if got := told(base.Run(code([]api.Datum{c.d}, op(api.OpConst, 0), op(api.OpReturn)), ample())); got != c.want {
			t.Errorf("%s: %s, not %s", name, got, c.want)
		}
		// What is not pushed is not asked for.
		if got := told(base.Run(code([]api.Datum{c.d, whole(1)}, op(api.OpConst, 1), op(api.OpReturn)), ample())); got != "value 1" {
			t.Errorf("%s, not pushed: %s", name, got)
		}
	}
}

// TestConstantsAreObjects: each constant is one object, and no other is that.
func TestConstantsAreObjects(t *testing.T) {
	eq := op(api.OpPrim, 24, 2)
	consts := []api.Datum{text("a"), text("a"), {Kind: api.Symbol, Text: "a"}, {Kind: api.Symbol, Text: "a", N: 3}}
	for _, c := range []struct {
		a, b int
		want string
	}{{0, 0, "value #t"}, {0, 1, "value #f"}, {2, 3, "value #t"}, {2, 2, "value #t"}} {
		l := ample()
		l.Gc = []int{1, 2}
		if got := told(base.Run(code(consts, op(api.OpConst, c.a), op(api.OpConst, c.b), eq, op(api.OpReturn)), l)); got != c.want {
			t.Errorf("%d, %d: %s", c.a, c.b, got)
		}
	}
	// It is laid when it is pushed first, not ahead of that.
	ps := code([]api.Datum{whole(1), text(strings.Repeat("a", 200))}, op(api.OpConst, 0), op(api.OpConst, 1), op(api.OpReturn))
	m := made(t, ps, ample())
	m.Step(1)
	if n := len(m.Words()); n != 1 {
		t.Errorf("%d words", n)
	}
	m.Step(1)
	if n := len(m.Words()); n != 1+2+25 {
		t.Errorf("%d words", n)
	}
	runRows(t, []row{
		{"(define (f) '(1 2)) (set-car! (f) 5) (list (f) (eq? (f) (f)))", "value ((5 2) #t)"},
		{"(define (f) \"a\") (eq? (f) (f))", "value #t"},
		{"(eq? \"a\" \"a\")", "value #f"},
		{"(eq? 'a (string->symbol \"a\"))", "value #t"},
	})
}
