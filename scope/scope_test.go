package scope_test

import (
	"cmp"
	"reflect"
	"regexp"
	"slices"
	"strconv"
	"strings"
	"testing"

	"avow/api"
	"avow/scope"
)

// TestNumbers holds numbers against those that stand in the texts, behind names and /.
func TestNumbers(t *testing.T) {
	mark := regexp.MustCompile(`/\d+`)
	for _, marked := range []string{
		"", "ref x := 1;;", "let f : Pure int is 1;;",
		// binders
		"let f : Pure int is let x = 1 in let y = 2 in x/1;;",
		"let f : Pure int is let x = 1 in let x = x/0 in x/0 + (let x = x/0 in x/0) + x/0;;",
		"let f (a : int) (b : int) : Pure int is a/1 + b/0;;",
		"let f (a : int) (b : int) : Pure int is let c = a/1 in let d = b/1 in a/3 + b/2 + c/1 + d/0;;",
		"let f (x : int) : Pure int is let x = x/0 in x/0;;",
		"let f (a : int) : Exn int is try let b = a/0 in raise b/0 with x -> a/1 + x/0;;",
		"let f (x : int) : Exn int is try raise x/0 with x -> x/0;;",
		"let f (a : int) : Exn int is (try 1 with b -> b/0 + a/1) + (let c = a/0 in c/0) + a/0;;",
		"let f (a : int) : Pure int is if a/0 = 1 then let b = 1 in a/1 else a/0;;",
		"let f (a : int) : All int is let b = (let c = a/0 in c/0); a/0 in a/1 + b/0;;",
		"let f (a : int) : All int is raise -a/0; assert not (a/0 ==> a/0 || a/0 && a/0); a/0 * 1 - a/0 <> a/0;;",
		// contracts
		"let f (a : {v : int | v/0 > 0}) (b : {w : int | w/0 > a/1}) (c : {a : int | a/0 > b/1}) : Pure int is 1;;",
		"let f (a : int) (b : int) : Pure int requires a/1 > b/0 is 1;;",
		"let f (a : int) (b : int) : Pure {v : int | v/0 > a/2 && v/0 > b/1} is 1;;",
		"let f (a : int) (b : int) : Pure {a : int | a/0 > b/1} is a/1;;",
		"let f (a : int) (b : int) : Pure int ensures r. r/0 > a/2 && r/0 > b/1 is 1;;",
		"let f (a : int) (b : int) : Pure int ensures b. b/0 > a/2 is b/0;;",
		"let f (a : int) (b : int) : Pure int decreases a/1, b/0 is 1;;",
		"let f (v : int) : Pure {v : int | v/0 > 1} requires v/0 > 2 ensures v. v/0 > (let v = v/0 in v/0) decreases v/0 is v/0;;",
		"let f (a : {v : int | let x = v/0 in x/0 > v/1}) (b : {v : int | let a = a/1 in a/0 > v/1}) : Pure int is 1;;",
		// cells
		"ref x := 1;; ref y := 2;; let f : State int is !x/0 + !y/1;;",
		"ref x := 1;; let f : State int is 1;; ref y := 2;; let g : State unit is y/1 := !x/0; x/0 := !y/1;;",
		"ref x := 1;; let f (x : int) : State unit is x/0 := x/0 + !x/0 + (let x = x/0 in !x/0);;",
		"ref x := 1;; ref y := 1;; let f (a : {v : int | !x/0 > v/0}) : State {w : int | !y/1 > w/0} requires !y/1 > 1 ensures r. old y/1 > !y/1 && old x/0 > !x/0 decreases !y/1 is !x/0;;",
		"ref x := 1;; let f (x : int) : State int ensures x. old x/0 > (let x = old x/0 in x/0) is 1;;",
		// definitions
		"let f : Pure int is 1;; let g : Pure int is f/0();; ref f1 := 1;; let h : Pure int is f/0() + g/1();;",
		"ref x := 1;; let f : Pure int is 1;; ref y := 1;; let rec g : Div int is g/1() + f/0();; let h : Pure int is g/1();;",
		"let rec f (x : int) : Pure int is f/0(x/0);; let rec g (x : int) : Pure int is f/0(g/1(f/0(x/0)));;",
		"let rec f (a : {v : int | f/0(v/0) > 0}) : Pure {w : int | f/0(w/0) > a/1} requires f/0(a/0) > 0 ensures r. f/0(r/0) > a/1 decreases f/0(a/0) is f/0(a/0);;",
		"let f : Pure int is 1;; let g (f : int) : Pure int is f/0() + f/0 + (let g = f/0 in f/0() + f/1 + g/0);;",
	} {
		text := mark.ReplaceAllString(marked, "")
		var wanted, got []int
		for _, m := range mark.FindAllString(marked, -1) {
			i, _ := strconv.Atoi(m[1:])
			wanted = append(wanted, i)
		}
		l, wrong := ask(t, read(t, text))
		if wrong != nil {
			t.Errorf("P17.2: %q: %v", text, wrong)
		}
		all := named(l)
		slices.SortFunc(all, func(a, b *api.Expr) int { return cmp.Compare(a.At, b.At) })
		for _, e := range all {
			got = append(got, e.I)
		}
		if !slices.Equal(got, wanted) {
			t.Errorf("P17.2: %s: %d", marked, got)
		}
	}
}

// TestErrors asks for the first error of texts in which it stands behind an @.
func TestErrors(t *testing.T) {
	for err, texts := range map[api.Errno][]string{
		api.ErrTwice: {
			"ref x := 1;; ref @x := 1;;", "ref x := 1;; let @x : Pure int is y;;", "let f : Pure int is 1;; ref @f := 1;;", "let f : Pure int is 1;; let @f : Pure int is z;;", "let rec f : Pure int is 1;; let rec @f : Pure int is z;;", "ref x := 1;; ref y := 1;; let f : Pure int is 1;; ref @x := 1;; ref y := 1;;",
			"ref x := 1;; let @x (a : int) (a : int) : Pure int is 1;;", "ref x := 1;; let @x (a : {v : int | z}) : Pure int is 1;;",
			"let f (a : int) (@a : int) : Pure int is 1;;", "let f (a : int) (b : int) (c : int) (@b : int) (a : int) : Pure int is 1;;", "let f (a : int) (@a : {v : int | z}) : Pure int requires z is z;;", "let f (a : int) (b : {v : int | v > a}) (@a : int) : Pure {v : int | z} requires z is z;;", "let f (v : int) (@v : {v : int | v}) : Pure int is 1;;",
			"ref x := 1;; ref @x := 1;; let f : Pure int is z;;",
		},
		api.ErrName: {
			// binders
			"let f : Pure int is @x;;", "let f : Pure int is @f;;", "ref x := 1;; let f : State int is @x;;", "let f (a : int) : Pure int is a;; let g : Pure int is @a;;",
			"let f : Pure int is let x = @x in x;;", "let f : Pure int is (let x = 1 in x) + @x;;", "let f : Pure int is @x + (let x = 1 in x);;", "let f : Exn int is try @x with x -> x;;", "let f : Exn int is (try 1 with x -> x); @x;;", "let f : Pure int is let x = (let y = 1 in y) in @y;;",
			"let f (a : {v : int | @a}) : Pure int is 1;;", "let f (a : {v : int | @b}) (b : int) : Pure int is b;;", "let f (a : {v : int | v}) (b : {w : int | @v}) : Pure int is 1;;", "let f (a : {v : int | v}) : Pure int requires @v is 1;;",
			"let f : Pure {v : int | v} requires @v is 1;;", "let f : Pure {v : int | v} ensures r. @v is 1;;", "let f : Pure {v : int | v} decreases @v is 1;;", "let f : Pure {v : int | v} is @v;;",
			"let f : Pure {v : int | @r} ensures r. r is 1;;", "let f : Pure int requires @r ensures r. r is 1;;", "let f : Pure int ensures r. r decreases @r is 1;;", "let f : Pure int ensures r. r is @r;;",
			// cells
			"let f : State int is @!x;;", "let f : State int is @!x;; ref x := 1;;", "let f : State int is 1;; let g : State int is @!f;;", "let f (x : int) : State int is @!x;;", "let f : State unit is @x := 1;;", "let f : State unit is @x := y;;", "ref x := 1;; let f : State unit is x := @y;;", "ref x := 1;; let f : State unit is x := @!y;;", "let f : State int ensures r. @old x is 1;;", "let f : State int ensures r. @old r is 1;; ref r := 1;;", "ref x := 1;; let f : State int ensures r. old x = @old y is 1;;",
			// definitions
			"let f : Pure int is @f();;", "let f : Pure int is @g();; let g : Pure int is 1;;", "ref x := 1;; let f : Pure int is @x();;", "let f (g : int) : Pure int is @g();;", "let f : Pure int is @g(y, z());;", "let f (a : int) : Pure int is 1;; let g : Pure int is f(@y);;", "let rec f (a : int) : Pure int is f(@g(f(1)), z);;", "let f : Pure int requires @f() is 1;;", "let f : Pure int is 1;; let g (a : {v : int | f() = v && @g() = v}) : Pure int is 1;;",
			// the first one
			"let f (a : {v : int | @z}) (a : int) : Pure int is 1;;", "let f (a : {v : int | @z1}) (b : {v : int | z2}) : Pure {v : int | z4} requires z3 ensures r. z5 decreases z6 is z7;;", "let f (a : int) (b : {v : int | @z2}) : Pure {v : int | z4} requires z3 ensures r. z5 decreases z6 is z7;;", "let f : Pure {v : int | z4} requires @z3 ensures r. z5 decreases z6 is z7;;",
			"let f : Pure {v : int | @z4} ensures r. z5 decreases z6 is z7;;", "let f : Pure int ensures r. @z5 decreases z6 is z7;;", "let f : Pure int decreases @z6, z8 is z7;;", "let f (a : int) : Pure int decreases a, @z6 is z7;;", "let f : Pure int is @z7;; let f : Pure int is 1;;", "let f : Pure int is @z7;; ref x := 1;; ref x := 1;;",
			"let f : Pure int is @a + b;;", "let f : Pure int is (@a + b) * c;;", "let f : Pure int is 1 - @b - c;;", "let f : Pure int is if @a then b else c;;", "let f : Pure int is if true then @b else c;;", "let f : Pure int is if true then 1 else @c;;", "let f : Pure int is @a; b;;", "let f : Pure int is 1; @b; c;;", "let f : Pure int is let x = @a in b;;", "let f : Pure int is let x = 1 in @b;;", "let f : Pure int is try @a with x -> b;;", "let f : Pure int is try 1 with x -> @b;;",
			"let f : Pure int is raise @a + b;;", "let f : Pure int is assert @a = b;;", "let f : Pure int is -@a;;", "let f : Pure int is not @a;;", "let f : Pure int is 1 ==> @a ==> b;;", "let rec f : Pure int is f(1, @b, c);;", "let f : State int is @!x + old y;;", "let f : State int ensures r. @x && old y is 1;;",
		},
		api.ErrOld: {
			"ref x := 1;; let f : State int is @old x;;", "let f : State int is @old x;;", "ref x := 1;; let f (a : {v : int | @old x > v}) : State int is 1;;", "ref x := 1;; let f : State int requires @old x > 1 is 1;;", "ref x := 1;; let f : State {v : int | @old x > v} is 1;;", "ref x := 1;; let f : State int decreases @old x is 1;;", "let f : State int requires @old y > 1 is 1;;",
			"ref x := 1;; let f : State int ensures r. old x > 1 decreases @old x is 1;;", "ref x := 1;; let f : State int ensures r. old x > 1 is @old x;;", "ref x := 1;; let f : State int ensures r. old x > 1 is 1;; let g : State int requires @old x > 1 is 1;;", "ref x := 1;; let f : State int is let y = @old x in z;;", "ref x := 1;; let f : State unit is x := @old x;;", "let f : State int is @old f + z;;", "ref x := 1;; let f : State unit is x := @old z;;",
		},
	} {
		for _, marked := range texts {
			at := strings.Index(marked, "@")
			text := strings.Replace(marked, "@", "", 1)
			if _, wrong := ask(t, read(t, text)); wrong == nil || *wrong != (api.PlaceError{At: at, Err: err}) {
				t.Errorf("P17.1: %s: %v, wanted %v at %d", marked, wrong, err, at)
			}
		}
	}
}

// TestSame holds that all but numbers is as it was handed in.
func TestSame(t *testing.T) {
	text := "ref c := -3;; ref d := 0;; let rec f (a : {v : int | v > 12}) (b : bool) (u : unit) : All {w : int | w > a} requires b && true || false ensures r. r > old d decreases a, -a, !c is let x = f(a - 1, not b, ()) in try (d := x; raise x * 2) with e -> (if b ==> b then assert x <> e; 1 else !d);;"
	l, wrong := ask(t, read(t, text))
	if wrong != nil {
		t.Fatal(wrong)
	}
	for _, e := range named(l) {
		e.I = 0
	}
	if !same(l, read(t, text)) {
		t.Errorf("P17.1: %+v", l)
	}
	again, wrong := ask(t, read(t, text))
	if twice, wrongToo := ask(t, again); wrong != nil || wrongToo != nil || !same(again, twice) {
		t.Errorf("P17.1: %v, %v: %+v, resolved twice", wrong, wrongToo, twice)
	}
}

func TestNothing(t *testing.T) {
	for _, l := range [][]api.Decl{nil, {}, make([]api.Decl, 0, 9)} {
		if out, wrong := ask(t, l); wrong != nil || len(out) != 0 {
			t.Errorf("P17.1: %+v, %v", out, wrong)
		}
		if len(scope.Cells(l)) != 0 || len(scope.Defs(l)) != 0 {
			t.Errorf("P17.3: %v, %v", scope.Cells(l), scope.Defs(l))
		}
	}
}

func TestCellsAndDefs(t *testing.T) {
	for _, x := range []struct {
		text  string
		cells []string
		defs  []int
	}{
		{"ref x := 1;;", []string{"x"}, nil}, {"let f : Pure int is 1;;", nil, []int{0}}, {"ref x := 1;; let f : Pure int is 1;; ref a := 1;; ref x1 := 1;; let rec g : Pure int is 1;; let a1 : Pure int is 1;;", []string{"x", "a", "x1"}, []int{1, 4, 5}},
		// of names that can't be, too
		{"let f : Pure int is z;; ref x := 1;; ref x := 1;; let f : Pure int is old x;;", []string{"x", "x"}, []int{0, 3}},
	} {
		l := read(t, x.text)
		if got := scope.Cells(l); !slices.Equal(got, x.cells) {
			t.Errorf("P17.3: %q: %q, wanted %q", x.text, got, x.cells)
		}
		if got := scope.Defs(l); !slices.Equal(got, x.defs) {
			t.Errorf("P17.3: %q: %d, wanted %d", x.text, got, x.defs)
		}
		if l, wrong := ask(t, l); wrong == nil && (!reflect.DeepEqual(scope.Cells(l), x.cells) || !reflect.DeepEqual(scope.Defs(l), x.defs)) {
			t.Errorf("P17.3: %q, resolved", x.text)
		}
	}
}

// TestManyCellsAndDefs asks for numbers as great as they can be.
func TestManyCellsAndDefs(t *testing.T) {
	var text strings.Builder
	half := api.MaxDecls / 2
	for i := range half {
		n := strconv.Itoa(i)
		text.WriteString("ref x" + n + " := 1;; let rec f" + n + " : All int ensures r. old x" + n + " > old x0 is !x" + n + "; f" + n + "();;\n")
	}
	l, wrong := ask(t, read(t, text.String()))
	if wrong != nil || len(scope.Cells(l)) != half || len(scope.Defs(l)) != half {
		t.Fatalf("P17.1: %v", wrong)
	}
	for i := range half {
		d := l[2*i+1]
		if d.Ensures[0].L[0].I != i || d.Ensures[0].L[1].I != 0 || d.Body.L[0].I != i || d.Body.L[1].I != i {
			t.Errorf("P17.2: number %d: %+v", i, d)
		}
	}
}
