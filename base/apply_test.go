package base_test

import (
	"fmt"
	"strconv"
	"strings"
	"testing"

	"tandem/api"
	"tandem/base"
)

// ring is a list that apply is called with again and again when it is called with it first: with so many lists in it, behind so many that are not.
func ring(ahead, length int) string {
	return "(define (lists n l) (if (= n 0) l (lists (- n 1) (list apply l)))) (define end (list apply 0)) (define start (lists " +
		strconv.Itoa(length-1) + " end)) (set-car! (cdr end) start) (define l (lists " + strconv.Itoa(ahead) + " start)) "
}

func TestApplyComesRound(t *testing.T) {
	for _, around := range []string{
		"(apply apply l)",
		"(apply apply apply (list l))",
		"(+ 1 (apply apply l))",
		"(define (f) (apply apply l)) (f)",
		"(with-exception-handler (lambda (e) 1) (lambda () (apply apply l)))",
		"(call/cc (lambda (k) (dynamic-wind void (lambda () (apply apply l)) (lambda () (k 1)))))",
		"(dynamic-wind (lambda () (apply apply l)) void void)",
		"(with-exception-handler (lambda (e) (apply apply l)) (lambda () (car 5)))",
	} {
		var rows []row
		for _, size := range [][2]int{{0, 1}, {0, 2}, {0, 3}, {1, 1}, {2, 3}, {5, 1}, {7, 8}, {100, 1}, {100, 37}} {
			rows = append(rows, row{ring(size[0], size[1]) + "(display 1) " + around + " (display 2)", "bound |1|"})
		}
		runRows(t, rows)
	}
}

// What is called between grows, shrinks, or is something else in the end.
func TestAppliesThatEnd(t *testing.T) {
	ahead := "(define (put n x l) (if (= n 0) l (put (- n 1) x (cons x l)))) (define (nest n l) (if (= n 0) l (nest (- n 1) (list apply l)))) "
	shrinks := ahead + "(define l (list 0)) (set-car! l l) "
	runRows(t, []row{
		{ahead + "(apply apply (nest 1 (list + (list 1 2))))", "value 3"},
		{ahead + "(apply apply (nest 3000 (list + (list 1 2))))", "value 3"},
		{ahead + "(apply apply (nest 3000 (list (lambda r r) 1 (list 2))))", "value (1 2)"},
		{ahead + "(apply apply (nest 3000 (list car (list 2))))", `raised #<condition type "car" 2>`},
		{ahead + "(apply apply (nest 3000 (list apply (list +))))", `raised #<condition arity "apply" #<procedure>>`},
		{ahead + "(apply apply (nest 3000 (list apply 5)))", `raised #<condition type "apply" #<procedure> 5>`},
		{ahead + "(apply apply (nest 3000 (list 5 6 (list 7))))", `raised #<condition apply "call" 5 6 7>`},
		{ahead + "(apply apply (nest 3000 (list + (put 1024 1 '()))))", "value 1024"},
		{ahead + "(apply apply (nest 3000 (list + (put 1025 1 '()))))", "bound"},
		{ahead + "(define l (list apply apply 0)) (set-car! (cdr (cdr l)) l) (apply apply l)", "bound"},
		{shrinks + "(call/cc (lambda (k) (with-exception-handler (lambda (e) (k (list (condition-class e) (condition-message e)))) (lambda () (apply apply l)))))", `value (arity "apply")`},
		{shrinks + "(apply apply (append (put 1000 apply '()) (list (lambda r (eq? (car r) l)) l)))", "value #t"},
		{shrinks + "(apply apply (put 500 apply (cons (lambda r (length r)) (list 7 8 l))))", "value 3"},
	})
}

// The ring is no instruction's: what was counted and what went out stays, and the fuel that is left is not used up.
func TestCountWhereApplyComesRound(t *testing.T) {
	ps := compiled(t, ring(3, 4)+"(display 1) (apply apply l)")
	m := made(t, ps, ample())
	for m.Step(1) {
	}
	count := m.Count()
	if o := m.Outcome(); told(o) != "bound |1|" || m.Step(100) || m.Count() != count {
		t.Errorf("%s, %d then %d", told(o), count, m.Count())
	}
	for _, fuel := range []int{count - 1, count, count + 1} {
		l := ample()
		l.Fuel = fuel
		want := "bound |1|"
		if fuel < count {
			want = "fuel |1|"
		}
		m := made(t, ps, l)
		for m.Step(1000) {
		}
		if o := m.Outcome(); told(o) != want || m.Count() != min(fuel, count) {
			t.Errorf("fuel %d: %s, %d", fuel, told(o), m.Count())
		}
	}
}

// applyTable is lists of one another: an item is a list's number, or one of these.
type applyTable [][]int

const (
	applyItem = -1 - iota
	countItem // (lambda r (length r))
	numberItem
)

func madeApplyTable(d *dice) applyTable {
	table := make(applyTable, 1+d.below(4))
	for i := range table {
		for range d.below(5) {
			item := d.below(len(table))
			if d.below(2) > 0 {
				item = applyItem
			}
			if d.below(12) == 0 {
				item = countItem - d.below(2)
			}
			table[i] = append(table[i], item)
		}
	}
	return table
}

func (a applyTable) source() string {
	var b strings.Builder
	for i, items := range a {
		fmt.Fprintf(&b, "(define l%d (list%s)) ", i, strings.Repeat(" 0", len(items)))
	}
	for i, items := range a {
		for j, item := range items {
			name := map[int]string{applyItem: "apply", countItem: "(lambda r (length r))", numberItem: "5"}[item]
			if item >= 0 {
				name = "l" + strconv.Itoa(item)
			}
			fmt.Fprintf(&b, "(set-car! (list-tail l%d %d) %s) ", i, j, name)
		}
	}
	return b.String() + "(call/cc (lambda (out) (with-exception-handler (lambda (e) (out (condition-class e))) (lambda () (apply apply l0)))))"
}

// comesTo is what the applies come to, told by keeping all arguments that there were.
func (a applyTable) comesTo() string {
	args, had := []int{applyItem, 0}, map[string]int{}
	for {
		last := args[len(args)-1]
		if last < 0 {
			return "type"
		}
		f := args[0]
		args = append(append([]int{}, args[1:len(args)-1]...), a[last]...)
		if len(args) > api.MaxArgs*16 {
			return "bound"
		}
		if f != applyItem {
			return map[bool]string{true: strconv.Itoa(len(args)), false: "apply"}[f == countItem]
		}
		if len(args) < 2 {
			return "arity"
		}
		key := fmt.Sprint(args)
		if had[key]++; had[key] > 1 {
			return "bound"
		}
	}
}

func TestMadeApplies(t *testing.T) {
	d := dice{44}
	met := map[string]int{}
	for range 2000 {
		table := madeApplyTable(&d)
		want := table.comesTo()
		met[want]++
		o := base.Run(compiled(t, table.source()), ample())
		if strings.TrimPrefix(told(o), "value ") != want {
			t.Fatalf("%v: %s, want %s", table, told(o), want)
		}
	}
	for _, want := range []string{"bound", "type", "apply", "arity", "0", "1", "2", "3"} {
		if met[want] == 0 {
			t.Errorf("nothing comes to %s", want)
		}
	}
}
