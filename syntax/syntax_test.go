package syntax_test

import (
	"strings"
	"testing"

	"emend/api"
	"emend/syntax"
	"emend/term"
	"emend/tree"
	"emend/trials"
)

// terms are texts, their goals ahead and NL for line ends, and their terms.
var terms = [][2]string{
	{"file package p; import \"a\"; import . \"b\"; import c \"d\"; import (); import (\"e\"; x `f`;)",
		"(1 (26 \"p\") (2 (3 \"import\" (5 (0) (27 \"\\\"a\\\"\"))) (3 \"import\" (5 \".\" (0) (27 \"\\\"b\\\"\"))) (3 \"import\" (5 (26 \"c\") (27 \"\\\"d\\\"\"))) (4 \"import\") (4 \"import\" (5 (0) (27 \"\\\"e\\\"\")) (5 (26 \"x\") (27 \"`f`\")))) (2))"},
	{`file package p; const a = 1; const (b, c int = 1, 2; d; e;); var f int; var g = 1; var h, i []int = a, b; var ()`,
		`(1 (26 "p") (2) (2 (3 "const" (6 (10 (26 "a")) (0) (11 (27 "1")))) (4 "const" (6 (10 (26 "b") (26 "c")) (26 "int") (11 (27 "1") (27 "2"))) (6 (10 (26 "d")) (0) (0)) (6 (10 (26 "e")) (0) (0))) (3 "var" (6 (10 (26 "f")) (26 "int") (0))) (3 "var" (6 (10 (26 "g")) (0) (11 (27 "1")))) (3 "var" (6 (10 (26 "h") (26 "i")) (43 (26 "int")) (11 (26 "a") (26 "b")))) (4 "var")))`},
	{`file package p; type A int; type B = C; type D[P any] E; type F[P, Q ~int|string, R interface{}] = G[P]; type H [N]int; type I [N*2]int; type J [a.b]int`,
		`(1 (26 "p") (2) (2 (3 "type" (7 (26 "A") (0) (26 "int"))) (3 "type" (7 "=" (26 "B") (0) (26 "C"))) (3 "type" (7 (26 "D") (16 (17 (10 (26 "P")) (18 (26 "any")))) (26 "E"))) (3 "type" (7 "=" (26 "F") (16 (17 (10 (26 "P") (26 "Q")) (18 (19 (26 "int")) (26 "string"))) (17 (10 (26 "R")) (18 (48 (23))))) (30 (26 "G") (11 (26 "P"))))) (3 "type" (7 (26 "H") (0) (41 (26 "N") (26 "int")))) (3 "type" (7 (26 "I") (0) (41 (37 "*" (26 "N") (27 "2")) (26 "int")))) (3 "type" (7 (26 "J") (0) (41 (29 (26 "a") (26 "b")) (26 "int"))))))`},
	{`file package p; func f(); func (r *T) g() int {}; func h[P any](x P) (a, b int) { return }; func i() (); func j() (int, ...T)`,
		`(1 (26 "p") (2) (2 (8 (0) (26 "f") (0) (9 (14) (0)) (0)) (8 (14 (15 (26 "r") (35 (26 "T")))) (26 "g") (0) (9 (14) (26 "int")) (58 (13))) (8 (0) (26 "h") (16 (17 (10 (26 "P")) (18 (26 "any")))) (9 (14 (15 (26 "x") (26 "P"))) (14 (15 (0) (26 "a")) (15 (26 "b") (26 "int")))) (58 (13 (56 (11))))) (8 (0) (26 "i") (0) (9 (14) (14)) (0)) (8 (0) (26 "j") (0) (9 (14) (14 (15 (0) (26 "int")) (15 "..." (0) (26 "T")))) (0))))`},
	{`type T[int, a.b,]`,
		`(30 (26 "T") (11 (26 "int") (29 (26 "a") (26 "b"))))`},
	{`type p.T[U]`,
		`(30 (29 (26 "p") (26 "T")) (11 (26 "U")))`},
	{`type *(map[K]chan<- <-chan V)`,
		`(35 (28 (44 (26 "K") (45 "chan<-" (45 "<-chan" (26 "V"))))))`},
	{`type chan <-chan int`,
		`(45 "chan<-" (45 "chan" (26 "int")))`},
	{`type <-chan chan int`,
		`(45 "<-chan" (45 "chan" (26 "int")))`},
	{`type [...]int`,
		`(42 (26 "int"))`},
	{`type func(a int, b ...T, c []int, d [5]int, e [f]g)`,
		`(46 (9 (14 (15 (26 "a") (26 "int")) (15 "..." (26 "b") (26 "T")) (15 (26 "c") (43 (26 "int"))) (15 (26 "d") (41 (27 "5") (26 "int"))) (15 (26 "e") (41 (26 "f") (26 "g")))) (0)))`},
	{`type func(...T,)`,
		`(46 (9 (14 (15 "..." (0) (26 "T"))) (0)))`},
	{`type struct{}`,
		`(47 (20))`},
	{"type struct{ a int; b, c T \"t\"; D; *E; *f.G `u`; h.I; J[K]; L[M] \"v\"; n []o; p [q]r; }",
		"(47 (20 (21 (10 (26 \"a\")) (26 \"int\") (0)) (21 (10 (26 \"b\") (26 \"c\")) (26 \"T\") (27 \"\\\"t\\\"\")) (22 (26 \"D\") (0)) (22 (35 (26 \"E\")) (0)) (22 (35 (29 (26 \"f\") (26 \"G\"))) (27 \"`u`\")) (22 (29 (26 \"h\") (26 \"I\")) (0)) (22 (30 (26 \"J\") (11 (26 \"K\"))) (0)) (22 (30 (26 \"L\") (11 (26 \"M\"))) (27 \"\\\"v\\\"\")) (21 (10 (26 \"n\")) (43 (26 \"o\")) (0)) (21 (10 (26 \"p\")) (41 (26 \"q\") (26 \"r\")) (0))))"},
	{`type interface{ m(); n(int) int; T; ~int | a.b; *U; }`,
		`(48 (23 (24 (26 "m") (9 (14) (0))) (24 (26 "n") (9 (14 (15 (0) (26 "int"))) (26 "int"))) (18 (26 "T")) (18 (19 (26 "int")) (29 (26 "a") (26 "b"))) (18 (35 (26 "U")))))`},
	{`expr a || b && c == d + e * f`,
		`(37 "||" (26 "a") (37 "&&" (26 "b") (37 "==" (26 "c") (37 "+" (26 "d") (37 "*" (26 "e") (26 "f"))))))`},
	{`expr a * b + c == d && e || f`,
		`(37 "||" (37 "&&" (37 "==" (37 "+" (37 "*" (26 "a") (26 "b")) (26 "c")) (26 "d")) (26 "e")) (26 "f"))`},
	{`expr a - b - c`,
		`(37 "-" (37 "-" (26 "a") (26 "b")) (26 "c"))`},
	{`expr a << b &^ c | d ^ e`,
		`(37 "^" (37 "|" (37 "&^" (37 "<<" (26 "a") (26 "b")) (26 "c")) (26 "d")) (26 "e"))`},
	{`expr -+!^&*<-a.b`,
		`(36 "-" (36 "+" (36 "!" (36 "^" (36 "&" (35 (36 "<-" (29 (26 "a") (26 "b")))))))))`},
	{`expr -a * b`,
		`(37 "*" (36 "-" (26 "a")) (26 "b"))`},
	{`expr <-chan int(x)`,
		`(34 (45 "<-chan" (26 "int")) (11 (26 "x")))`},
	{`expr (a)`,
		`(28 (26 "a"))`},
	{`expr a.b.c().(T).(type)`,
		`(33 (32 (34 (29 (29 (26 "a") (26 "b")) (26 "c")) (11)) (26 "T")))`},
	{`expr f(a, b..., )`,
		`(34 "..." (26 "f") (11 (26 "a") (26 "b")))`},
	{`expr f(a,)`,
		`(34 (26 "f") (11 (26 "a")))`},
	{`expr x[a]`,
		`(30 (26 "x") (11 (26 "a")))`},
	{`expr x[a, b, ]`,
		`(30 (26 "x") (11 (26 "a") (26 "b")))`},
	{`expr x[:]`,
		`(31 (26 "x") (0) (0) (0))`},
	{`expr x[a:]`,
		`(31 (26 "x") (26 "a") (0) (0))`},
	{`expr x[:b]`,
		`(31 (26 "x") (0) (26 "b") (0))`},
	{`expr x[a:b]`,
		`(31 (26 "x") (26 "a") (26 "b") (0))`},
	{`expr x[a:b:c]`,
		`(31 (26 "x") (26 "a") (26 "b") (26 "c"))`},
	{`expr x[:b:c]`,
		`(31 (26 "x") (0) (26 "b") (26 "c"))`},
	{`expr []int{1, a: 2, {3}: {4, }, }`,
		`(39 (43 (26 "int")) (12 (27 "1") (38 (26 "a") (27 "2")) (38 (39 (0) (12 (27 "3"))) (39 (0) (12 (27 "4"))))))`},
	{`expr a.b{}`,
		`(39 (29 (26 "a") (26 "b")) (12))`},
	{`expr a[b]{c}`,
		`(39 (30 (26 "a") (11 (26 "b"))) (12 (26 "c")))`},
	{`expr a.b[c, d]{}`,
		`(39 (30 (29 (26 "a") (26 "b")) (11 (26 "c") (26 "d"))) (12))`},
	{`expr struct{}{}`,
		`(39 (47 (20)) (12))`},
	{`expr map[a]b{c: d}`,
		`(39 (44 (26 "a") (26 "b")) (12 (38 (26 "c") (26 "d"))))`},
	{`expr [...]T{}`,
		`(39 (42 (26 "T")) (12))`},
	{`expr func(a int) b { return }`,
		`(40 (9 (14 (15 (26 "a") (26 "int"))) (26 "b")) (58 (13 (56 (11)))))`},
	{`expr func()`,
		`(46 (9 (14) (0)))`},
	{`expr func() (int)(x)`,
		`(34 (46 (9 (14) (14 (15 (0) (26 "int"))))) (11 (26 "x")))`},
	{`expr interface{}(x)`,
		`(34 (48 (23)) (11 (26 "x")))`},
	{"expr 'a' + \"b\" + `c` + 1i + 0x1p2",
		"(37 \"+\" (37 \"+\" (37 \"+\" (37 \"+\" (27 \"'a'\") (27 \"\\\"b\\\"\")) (27 \"`c`\")) (27 \"1i\")) (27 \"0x1p2\"))"},
	{`stmts ;;a;;`,
		`(13 (49) (49) (50 (26 "a")) (49))`},
	{`stmts a, b = c, d; a := b; a += b; a &^= b; a++; b--; a <- b; f()`,
		`(13 (53 "=" (11 (26 "a") (26 "b")) (11 (26 "c") (26 "d"))) (53 ":=" (11 (26 "a")) (11 (26 "b"))) (53 "+=" (11 (26 "a")) (11 (26 "b"))) (53 "&^=" (11 (26 "a")) (11 (26 "b"))) (52 "++" (26 "a")) (52 "--" (26 "b")) (51 (26 "a") (26 "b")) (50 (34 (26 "f") (11))))`},
	{`stmts go f(); defer g(); return; return a, b; break; break a; continue; continue b; goto c; fallthrough`,
		`(13 (54 (34 (26 "f") (11))) (55 (34 (26 "g") (11))) (56 (11)) (56 (11 (26 "a") (26 "b"))) (57 "break" (0)) (57 "break" (26 "a")) (57 "continue" (0)) (57 "continue" (26 "b")) (57 "goto" (26 "c")) (57 "fallthrough" (0)))`},
	{`stmts a: b; c: ; d: {e:}; f: g: h:`,
		`(13 (67 (26 "a") (50 (26 "b"))) (67 (26 "c") (49)) (67 (26 "d") (58 (13 (67 (26 "e") (49))))) (67 (26 "f") (67 (26 "g") (67 (26 "h") (49)))))`},
	{`stmts {}; { a }; const b = 1; var c int; type d e`,
		`(13 (58 (13)) (58 (13 (50 (26 "a")))) (68 (3 "const" (6 (10 (26 "b")) (0) (11 (27 "1"))))) (68 (3 "var" (6 (10 (26 "c")) (26 "int") (0)))) (68 (3 "type" (7 (26 "d") (0) (26 "e")))))`},
	{`stmts if a {}; if ; a {}; if a; b {}; if a := b; c { d } else if e { f } else { g }`,
		`(13 (59 (0) (26 "a") (58 (13)) (0)) (59 (0) (26 "a") (58 (13)) (0)) (59 (50 (26 "a")) (26 "b") (58 (13)) (0)) (59 (53 ":=" (11 (26 "a")) (11 (26 "b"))) (26 "c") (58 (13 (50 (26 "d")))) (59 (0) (26 "e") (58 (13 (50 (26 "f")))) (58 (13 (50 (26 "g")))))))`},
	{`stmts if (T{}) == a[T{}] && f(T{1}) {}; if []T{} == a {}; if func() { x{} }() {}`,
		`(13 (59 (0) (37 "&&" (37 "==" (28 (39 (26 "T") (12))) (30 (26 "a") (11 (39 (26 "T") (12))))) (34 (26 "f") (11 (39 (26 "T") (12 (27 "1")))))) (58 (13)) (0)) (59 (0) (37 "==" (39 (43 (26 "T")) (12)) (26 "a")) (58 (13)) (0)) (59 (0) (34 (40 (9 (14) (0)) (58 (13 (50 (39 (26 "x") (12)))))) (11)) (58 (13)) (0)))`},
	{`stmts switch {}; switch ; {}; switch a {}; switch a; {}; switch a; b {}; switch ; c {}`,
		`(13 (60 (0) (0) (25)) (60 (0) (0) (25)) (60 (0) (26 "a") (25)) (60 (50 (26 "a")) (0) (25)) (60 (50 (26 "a")) (26 "b") (25)) (60 (0) (26 "c") (25)))`},
	{`stmts switch a { case b, c: d; case e: default: f; g }`,
		`(13 (60 (0) (26 "a") (25 (62 (11 (26 "b") (26 "c")) (13 (50 (26 "d")))) (62 (11 (26 "e")) (13)) (62 (0) (13 (50 (26 "f")) (50 (26 "g")))))))`},
	{`stmts switch a.(type) {}; switch b := a.(type) { case int, []T: c; default: }; switch c; a.(type) {}; switch ; b := a.(type) {}`,
		`(13 (61 (0) (0) (26 "a") (25)) (61 (0) (26 "b") (26 "a") (25 (62 (11 (26 "int") (43 (26 "T"))) (13 (50 (26 "c")))) (62 (0) (13)))) (61 (50 (26 "c")) (0) (26 "a") (25)) (61 (0) (26 "b") (26 "a") (25)))`},
	{`stmts switch a, b := c, d; e {}`,
		`(13 (60 (53 ":=" (11 (26 "a") (26 "b")) (11 (26 "c") (26 "d"))) (26 "e") (25)))`},
	{`stmts select {}; select { case a <- b: c; case d := <-e: case <-f: default: }`,
		`(13 (63 (25)) (63 (25 (64 (51 (26 "a") (26 "b")) (13 (50 (26 "c")))) (64 (53 ":=" (11 (26 "d")) (11 (36 "<-" (26 "e")))) (13)) (64 (50 (36 "<-" (26 "f"))) (13)) (64 (0) (13)))))`},
	{`stmts for {}; for a {}; for range a {}; for a = range b {}; for a, b := range c {}; for ;; {}; for a; b; c {}; for a := 1; ; {}; for ; a; {}; for ; ; a++ {}`,
		`(13 (65 (0) (0) (0) (58 (13))) (65 (0) (26 "a") (0) (58 (13))) (66 (0) (26 "a") (58 (13))) (66 "=" (11 (26 "a")) (26 "b") (58 (13))) (66 ":=" (11 (26 "a") (26 "b")) (26 "c") (58 (13))) (65 (0) (0) (0) (58 (13))) (65 (50 (26 "a")) (26 "b") (50 (26 "c")) (58 (13))) (65 (53 ":=" (11 (26 "a")) (11 (27 "1"))) (0) (0) (58 (13))) (65 (0) (26 "a") (0) (58 (13))) (65 (0) (0) (52 "++" (26 "a")) (58 (13))))`},
	{`stmts aNLbNL//cNLd`,
		`(13 (50 (26 "a")) (50 (26 "b")) (50 (26 "d")))`},
	{"stmts ",
		`(13)`},
	{`file package p;`,
		`(1 (26 "p") (2) (2))`},
	{`expr a;`,
		`(26 "a")`},
	{`type a;`,
		`(26 "a")`},
	{`expr aNL`,
		`(26 "a")`},
	{`type aNLNL`,
		`(26 "a")`},
	{`expr a ; // bNL/* c */`,
		`(26 "a")`},
	{`stmts a -= b; a *= b; a /= b; a %= b; a &= b; a |= b; a ^= b; a <<= b; a >>= b`,
		`(13 (53 "-=" (11 (26 "a")) (11 (26 "b"))) (53 "*=" (11 (26 "a")) (11 (26 "b"))) (53 "/=" (11 (26 "a")) (11 (26 "b"))) (53 "%=" (11 (26 "a")) (11 (26 "b"))) (53 "&=" (11 (26 "a")) (11 (26 "b"))) (53 "|=" (11 (26 "a")) (11 (26 "b"))) (53 "^=" (11 (26 "a")) (11 (26 "b"))) (53 "<<=" (11 (26 "a")) (11 (26 "b"))) (53 ">>=" (11 (26 "a")) (11 (26 "b"))))`},
	{`type func() []a`,
		`(46 (9 (14) (43 (26 "a"))))`},
	{`type func() [3]a`,
		`(46 (9 (14) (41 (27 "3") (26 "a"))))`},
	{`type func() *a`,
		`(46 (9 (14) (35 (26 "a"))))`},
	{`type func() struct{}`,
		`(46 (9 (14) (47 (20))))`},
	{`type func() map[a]b`,
		`(46 (9 (14) (44 (26 "a") (26 "b"))))`},
	{`type func() chan a`,
		`(46 (9 (14) (45 "chan" (26 "a"))))`},
	{`type func() interface{}`,
		`(46 (9 (14) (48 (23))))`},
	{`type func() <-chan a`,
		`(46 (9 (14) (45 "<-chan" (26 "a"))))`},
	{`type func() func() a`,
		`(46 (9 (14) (46 (9 (14) (26 "a")))))`},
	{`type func() a.b`,
		`(46 (9 (14) (29 (26 "a") (26 "b"))))`},
	{`expr chan int`,
		`(45 "chan" (26 "int"))`},
	{`expr chan<- a(b)`,
		`(34 (45 "chan<-" (26 "a")) (11 (26 "b")))`},
	{`expr [3]int{1}`,
		`(39 (41 (27 "3") (26 "int")) (12 (27 "1")))`},
	{`expr x.(type)`,
		`(33 (26 "x"))`},
	{`expr -a.b + *c.d`,
		`(37 "+" (36 "-" (29 (26 "a") (26 "b"))) (35 (29 (26 "c") (26 "d"))))`},
	{`expr a.(b).c[d](e).(type)`,
		`(33 (34 (30 (29 (32 (26 "a") (26 "b")) (26 "c")) (11 (26 "d"))) (11 (26 "e"))))`},
	{`stmts type (a[P ~b] c; d[P interface{}] e; f[P func()] g; h[P map[i]j] k; l[P chan m] n; o[P struct{}] q; r[P, Q s] t)`,
		`(13 (68 (4 "type" (7 (26 "a") (16 (17 (10 (26 "P")) (18 (19 (26 "b"))))) (26 "c")) (7 (26 "d") (16 (17 (10 (26 "P")) (18 (48 (23))))) (26 "e")) (7 (26 "f") (16 (17 (10 (26 "P")) (18 (46 (9 (14) (0)))))) (26 "g")) (7 (26 "h") (16 (17 (10 (26 "P")) (18 (44 (26 "i") (26 "j"))))) (26 "k")) (7 (26 "l") (16 (17 (10 (26 "P")) (18 (45 "chan" (26 "m"))))) (26 "n")) (7 (26 "o") (16 (17 (10 (26 "P")) (18 (47 (20))))) (26 "q")) (7 (26 "r") (16 (17 (10 (26 "P") (26 "Q")) (18 (26 "s")))) (26 "t")))))`},
	{`stmts type (a[P]b; c[P.d]e; f[P()]g; h[P*i]j; k [1]l; m []n)`,
		`(13 (68 (4 "type" (7 (26 "a") (0) (41 (26 "P") (26 "b"))) (7 (26 "c") (0) (41 (29 (26 "P") (26 "d")) (26 "e"))) (7 (26 "f") (0) (41 (34 (26 "P") (11)) (26 "g"))) (7 (26 "h") (0) (41 (37 "*" (26 "P") (26 "i")) (26 "j"))) (7 (26 "k") (0) (41 (27 "1") (26 "l"))) (7 (26 "m") (0) (43 (26 "n"))))))`},
	{`type func(a [b]c, d [e]f[g])`,
		`(46 (9 (14 (15 (26 "a") (41 (26 "b") (26 "c"))) (15 (26 "d") (41 (26 "e") (30 (26 "f") (11 (26 "g")))))) (0)))`},
	{`type struct{a[b]c; d[e]; f [g]h "i"; j[k] "l"}`,
		`(47 (20 (21 (10 (26 "a")) (41 (26 "b") (26 "c")) (0)) (22 (30 (26 "d") (11 (26 "e"))) (0)) (21 (10 (26 "f")) (41 (26 "g") (26 "h")) (27 "\"i\"")) (22 (30 (26 "j") (11 (26 "k"))) (27 "\"l\""))))`},
	{`expr !(a) == <-b`,
		`(37 "==" (36 "!" (28 (26 "a"))) (36 "<-" (26 "b")))`},
	{`expr (<-chan int)(a)`,
		`(34 (28 (45 "<-chan" (26 "int"))) (11 (26 "a")))`},
	{`expr (*a).b`,
		`(29 (28 (35 (26 "a"))) (26 "b"))`},
	{`expr &a{}`,
		`(36 "&" (39 (26 "a") (12)))`},
	{`expr a[b]`,
		`(30 (26 "a") (11 (26 "b")))`},
	{`expr a.b[c](d)`,
		`(34 (30 (29 (26 "a") (26 "b")) (11 (26 "c"))) (11 (26 "d")))`},
	{`expr a[[]b]`,
		`(30 (26 "a") (11 (43 (26 "b"))))`},
	{`stmts for a.b = range c {}`,
		`(13 (66 "=" (11 (29 (26 "a") (26 "b"))) (26 "c") (58 (13))))`},
	{`stmts for a[T{}] = range b {}`,
		`(13 (66 "=" (11 (30 (26 "a") (11 (39 (26 "T") (12))))) (26 "b") (58 (13))))`},
	{`stmts switch a := (T{}); b.(type) {}`,
		`(13 (61 (53 ":=" (11 (26 "a")) (11 (28 (39 (26 "T") (12))))) (0) (26 "b") (25)))`},
	{`stmts if a := func() { if b {} }; c {}`,
		`(13 (59 (53 ":=" (11 (26 "a")) (11 (40 (9 (14) (0)) (58 (13 (59 (0) (26 "b") (58 (13)) (0))))))) (26 "c") (58 (13)) (0)))`},
	{`stmts if a[func() bool { return T{} == b }()] {}`,
		`(13 (59 (0) (30 (26 "a") (11 (34 (40 (9 (14) (26 "bool")) (58 (13 (56 (11 (37 "==" (39 (26 "T") (12)) (26 "b"))))))) (11)))) (58 (13)) (0)))`},
	{`stmts select { case a, b = <-c: ; }`,
		`(13 (63 (25 (64 (53 "=" (11 (26 "a") (26 "b")) (11 (36 "<-" (26 "c")))) (13 (49))))))`},
}

// faults are texts, and the first fault that there is.
var faults = []struct {
	text string
	err  api.Errno
	at   int
}{
	{`expr a +`, 7, 3},
	{`stmts a b`, 7, 2},
	{`stmts if x { y }NLelse {}`, 7, 11},
	{`expr `, 7, 0},
	{`type `, 7, 0},
	{`file `, 7, 0},
	{`type 1`, 7, 0},
	{`type <-int`, 7, 2},
	{`type []`, 7, 2},
	{`type map[a`, 5, 3},
	{`type func`, 7, 4},
	{`type struct{1}`, 7, 7},
	{`type interface{1}`, 7, 10},
	{`type a b`, 7, 2},
	{`type a;;`, 7, 1},
	{`type a;b`, 7, 1},
	{`type aNLb`, 7, 1},
	{`type aNL;`, 7, 1},
	{`type a /**/ ;;NL// b`, 7, 7},
	{`type ;`, 7, 0},
	{`type [];`, 7, 2},
	{`type a[]`, 7, 2},
	{`type a[1]`, 7, 2},
	{`type a.1`, 7, 1},
	{`type chan`, 7, 4},
	{`type func(a.b c)`, 7, 9},
	{`type func(a b.c d)`, 7, 11},
	{`type func(,)`, 7, 5},
	{`type func(a int...)`, 7, 10},
	{`type struct{a}b`, 7, 9},
	{`type struct{a b c}`, 7, 11},
	{`type struct{a, b}`, 7, 11},
	{`type struct{(a)}`, 7, 7},
	{`type struct{a[b]c d}`, 7, 13},
	{`type interface{a() b c}`, 7, 16},
	{`type interface{a, b}`, 7, 11},
	{`type [...]`, 7, 5},
	{`type [a b]c`, 7, 3},
	{`expr a b`, 7, 2},
	{`expr a;b`, 7, 1},
	{`expr a;;`, 7, 1},
	{`expr a;;;b`, 7, 1},
	{`expr aNLb`, 7, 1},
	{`expr a // bNL+ c`, 7, 1},
	{`expr (t{});*`, 7, 5},
	{`expr n{}()NL{}`, 7, 5},
	{`expr a b;`, 7, 2},
	{`expr ;`, 7, 0},
	{`expr a +;`, 7, 3},
	{`expr (a`, 5, 0},
	{`expr ()`, 7, 1},
	{`expr (a b)`, 7, 3},
	{`expr a.(`, 5, 2},
	{`expr a.()`, 7, 3},
	{`expr a.(type b)`, 7, 8},
	{`expr a.1.b`, 4, 1},
	{`expr a.+`, 7, 2},
	{`expr f(,)`, 7, 2},
	{`expr f(a b)`, 7, 4},
	{`expr f(a... b)`, 7, 7},
	{`expr f(a..., b)`, 7, 8},
	{`expr f(a,,)`, 7, 4},
	{`expr x[]`, 7, 2},
	{`expr x[a b]`, 7, 4},
	{`expr x[::]`, 7, 3},
	{`expr x[a:b:]`, 7, 6},
	{`expr x[a,:]`, 7, 4},
	{`expr x[a:b:c:d]`, 7, 7},
	{`expr T{a b}`, 7, 4},
	{`expr T{,}`, 7, 2},
	{`expr T{a:}`, 7, 4},
	{`expr T{a:b:c}`, 7, 5},
	{`expr a(){}`, 7, 3},
	{`expr a.b.c{}`, 7, 5},
	{`expr (a){}`, 7, 3},
	{`expr func{}`, 7, 4},
	{`expr <-`, 7, 2},
	{`expr a ~ b`, 7, 2},
	{`expr ~a`, 7, 0},
	{`expr a <- b`, 7, 2},
	{`expr a := b`, 7, 2},
	{`expr range a`, 7, 0},
	{`stmts a, b`, 7, 4},
	{`stmts a, b++`, 7, 4},
	{`stmts a + `, 7, 4},
	{`stmts a = `, 7, 4},
	{`stmts a := range b`, 7, 5},
	{`stmts a++ b`, 7, 4},
	{`stmts a = b = c`, 7, 6},
	{`stmts a; }b`, 5, 3},
	{`stmts case a:`, 7, 0},
	{`stmts default:`, 7, 0},
	{`stmts else`, 7, 0},
	{`stmts go`, 7, 2},
	{`stmts return a b`, 7, 9},
	{`stmts goto`, 7, 4},
	{`stmts goto 1`, 7, 5},
	{`stmts goto a b`, 7, 7},
	{`stmts break 1`, 7, 6},
	{`stmts fallthrough a`, 7, 12},
	{`stmts a: b: }`, 5, 6},
	{`stmts {a b}`, 7, 3},
	{`stmts { case a: }`, 7, 2},
	{`stmts if {}`, 7, 3},
	{`stmts if a := b {}`, 7, 10},
	{`stmts if a++ {}`, 7, 7},
	{`stmts if a, b {}`, 7, 8},
	{`stmts if a; {}`, 7, 6},
	{`stmts if a; b; c {}`, 7, 7},
	{`stmts if a; b := c {}`, 7, 8},
	{`stmts if T{} {}`, 7, 7},
	{`stmts if aNL{}`, 7, 5},
	{`stmts if a {} else b`, 7, 13},
	{`stmts if a {} else {} else {}`, 7, 16},
	{`stmts if ; ; a {}`, 7, 5},
	{`stmts switch a := b {}`, 7, 14},
	{`stmts switch a = b.(type) {}`, 7, 20},
	{`stmts switch a, b := c.(type) {}`, 7, 24},
	{`stmts switch a.b := c.(type) {}`, 7, 23},
	{`stmts switch a := b.(type), c {}`, 7, 24},
	{`stmts switch a; b; c {}`, 7, 11},
	{`stmts switch a++ {}`, 7, 11},
	{`stmts switch a.(type) b {}`, 7, 16},
	{`stmts switch a { b }`, 7, 11},
	{`stmts switch a { case: }`, 7, 15},
	{`stmts switch a { case b }`, 7, 18},
	{`stmts switch a { default a: }`, 7, 19},
	{`stmts switch a.(type) { case 1: }`, 7, 23},
	{`stmts switch a { case b: c case d: }`, 7, 21},
	{`stmts switch a { case b: c default: }`, 7, 21},
	{`stmts select a {}`, 7, 7},
	{`stmts select { case a, b: }`, 7, 18},
	{`stmts select { case: }`, 7, 13},
	{`stmts select { a }`, 7, 9},
	{`stmts for a, b {}`, 7, 9},
	{`stmts for a = b {}`, 7, 10},
	{`stmts for a++ {}`, 7, 8},
	{`stmts for a; b {}`, 7, 9},
	{`stmts for a; b; c; d {}`, 7, 11},
	{`stmts for a; b := c; d {}`, 7, 9},
	{`stmts for a range b {}`, 7, 6},
	{`stmts for a += range b {}`, 7, 9},
	{`stmts for range {}`, 7, 10},
	{`stmts for a := range b c {}`, 7, 17},
	{`stmts for ; {}`, 7, 6},
	{`stmts for T{} {}`, 7, 8},
	{`stmts for {} {}`, 7, 7},
	{`stmts import "a"`, 7, 0},
	{`stmts func f() {}`, 7, 5},
	{`stmts const a int`, 7, 11},
	{`stmts const (a int; b)`, 7, 12},
	{`stmts var a`, 7, 5},
	{`stmts var (a int b int)`, 7, 11},
	{`stmts type a`, 7, 6},
	{`stmts type a = `, 7, 9},
	{`stmts type a[P]int b`, 7, 13},
	{`stmts type a[P any int`, 5, 6},
	{`stmts type a[P *b, Q any] c`, 7, 11},
	{`stmts var (;)`, 7, 5},
	{`file pack p`, 7, 0},
	{`file package`, 7, 7},
	{`file package 1`, 7, 8},
	{`file package p import "a"`, 7, 10},
	{`file package p; import a`, 7, 19},
	{`file package p; import 1`, 7, 18},
	{`file package p; import . a "b"`, 7, 20},
	{`file package p; import ("a" "b")`, 7, 23},
	{`file package p; var a int; import "b"`, 7, 22},
	{`file package p; a`, 7, 11},
	{`file package p; func`, 7, 15},
	{`file package p; func 1()`, 7, 16},
	{`file package p; func f`, 7, 17},
	{`file package p; func f(){} func g(){}`, 7, 22},
	{`file package p; func f[](){}`, 7, 18},
	{`file package p; func f[P](){}`, 7, 19},
	{`file package p; func f[P any,,](){}`, 7, 24},
	{`file package p;;`, 7, 10},
	{`file package p; func (a int`, 5, 16},
	{`file package p; const (a = )`, 7, 22},
	{`file package p; {}`, 7, 11},
	{`type func(a[],b)`, 7, 8},
	{`type func(a[], b int)`, 7, 8},
	{`type struct{a[]}`, 7, 10},
	{`type struct{a[];b int}`, 7, 10},
	{`type func() <-a`, 7, 9},
	{`stmts type a[P 1] b`, 7, 9},
	{`expr chan`, 7, 4},
	{`expr [3]`, 7, 3},
	{`expr x.(type`, 5, 2},
	{`expr x[]{}`, 7, 2},
	{`stmts for a := range b; c {}`, 7, 16},
	{`stmts for a = range b, c {}`, 7, 15},
	{`stmts for range b := c {}`, 7, 12},
	{`type a[b]]`, 5, 4},
	{`type interface{a(b c d)}`, 7, 16},
	{`type interface{~}`, 7, 11},
	{`type interface{a|}`, 7, 12},
	{`type interface{a b}`, 7, 12},
	{`stmts switch { default }`, 7, 17},
	{`stmts select { case a: b; case }`, 7, 25},
	{`stmts a.b: c`, 7, 3},
	{`stmts 1: a`, 7, 1},
	{`expr f(a)...`, 7, 4},
	{`expr a...`, 7, 1},
	{`stmts a <- b <- c`, 7, 7},
	{`stmts a++ = b`, 7, 4},
	{`stmts return;; }`, 5, 9},
}

// goal takes the goal off a row's text.
func goal(s string) (uint8, string) {
	word, text, _ := strings.Cut(s, " ")
	text = strings.ReplaceAll(text, "NL", "\n")
	return map[string]uint8{"type": api.GType, "expr": api.GExpr, "stmts": api.GStmts, "file": api.GFile}[word], text
}

func TestP12_2Terms(t *testing.T) {
	for _, c := range terms {
		g, s := goal(c[0])
		l, f := syntax.Term(g, s)
		got, _ := term.Show(l)
		if f != (api.Fault{}) || got != c[1] {
			t.Errorf("%s: %v\n%s\nwant\n%s", c[0], f, got, c[1])
		}
		p, f := syntax.Parse(g, s)
		if f != (api.Fault{}) || term.Check(l) != api.OK || tree.Check(p.Nodes, len(p.Tokens)) != api.OK {
			t.Errorf("%s: no term, or no tree: %v, %v", c[0], p.Nodes, f)
		}
	}
}

func TestP12_1Faults(t *testing.T) {
	for _, c := range faults {
		g, s := goal(c.text)
		want := api.Fault{Err: c.err, At: c.at}
		p, f := syntax.Parse(g, s)
		l, f2 := syntax.Term(g, s)
		if f != want || f2 != want || len(p.Tokens)+len(p.Nodes)+len(l) != 0 {
			t.Errorf("%s: %v, %v; want %v", c.text, f, f2, want)
		}
	}
	long := strings.Repeat(" ", api.MaxText+1)
	for _, c := range []struct {
		goal uint8
		s    string
		want api.Fault
	}{
		{0, "a", api.Fault{Err: api.ErrArg}}, {5, long + "\xff", api.Fault{Err: api.ErrArg}}, {255, "", api.Fault{Err: api.ErrArg}}, {api.GExpr, long, api.Fault{Err: api.ErrLong}}, {api.GExpr, "a b )1x \xff", api.Fault{Err: api.ErrChar, At: 8}}, {api.GExpr, "a b ) 1x", api.Fault{Err: api.ErrToken, At: 6}},
		{api.GExpr, "a b )", api.Fault{Err: api.ErrNest, At: 4}}, {api.GExpr, "a b" + strings.Repeat("(", 101), api.Fault{Err: api.ErrDeep, At: 103}}, {api.GExpr, "a b", api.Fault{Err: api.ErrSyntax, At: 2}}, {api.GStmts, "a +  // c", api.Fault{Err: api.ErrSyntax, At: 9}},
	} {
		p, f := syntax.Parse(c.goal, c.s)
		l, f2 := syntax.Term(c.goal, c.s)
		if f != c.want || f2 != c.want || len(p.Tokens)+len(p.Nodes)+len(l) != 0 {
			t.Errorf("Parse(%d, %.20q) = %v, %v; want %v", c.goal, c.s, f, f2, c.want)
		}
	}
}

// TestP12_1Ends: behind a Type and an Expr one ';' may stand ahead of the end; it is the
// fault itself, if anything stands behind it.
func TestP12_1Ends(t *testing.T) {
	d := trials.New(16)
	for i := 0; i < 3000; i++ {
		g := api.GType + uint8(i%2)
		s := trials.Text(g, d, 1+i%3)
		want := show(g, s)
		for _, end := range []string{";", "\n", " ;\n", "\n// a\n"} {
			if got := show(g, s+end); want == "fault" || got != want {
				t.Fatalf("%q is read as %s, want %s", s+end, got, want)
			}
		}
		fault := api.Fault{Err: api.ErrSyntax, At: len(s)}
		more := trials.Text(uint8(1+d.Roll(4)), d, 1)
		for _, end := range []string{";;", "\n;", ";" + more + ";", "\n;" + more, ";\n" + more + "\n;"} {
			if p, f := syntax.Parse(g, s+end); f != fault || len(p.Tokens)+len(p.Nodes) != 0 {
				t.Fatalf("Parse(%d, %q) = %v, want %v", g, s+end, f, fault)
			}
		}
	}
}

func nd(kind uint8, kids, word, from, to int) api.Node {
	return api.Node{Kind: kind, Kids: kids, Word: word, From: from, To: to}
}

// TestP12_1Places: the tokens of nodes, above all of those that have none.
func TestP12_1Places(t *testing.T) {
	for s, want := range map[string][]api.Node{
		"expr f(a, b...,)":                    {nd(api.KCall, 2, 5, 0, 8), nd(api.KName, 0, 0, 0, 1), nd(api.KExprs, 2, -1, 2, 5), nd(api.KName, 0, 2, 2, 3), nd(api.KName, 0, 4, 4, 5)},
		"expr f()":                            {nd(api.KCall, 2, -1, 0, 3), nd(api.KName, 0, 0, 0, 1), nd(api.KExprs, 0, -1, 2, 2)},
		"expr x[:]":                           {nd(api.KSlice, 4, -1, 0, 4), nd(api.KName, 0, 0, 0, 1), nd(api.KNone, 0, -1, 2, 2), nd(api.KNone, 0, -1, 3, 3), nd(api.KNone, 0, -1, 3, 3)},
		"expr x[a:b]":                         {nd(api.KSlice, 4, -1, 0, 6), nd(api.KName, 0, 0, 0, 1), nd(api.KName, 0, 2, 2, 3), nd(api.KName, 0, 4, 4, 5), nd(api.KNone, 0, -1, 5, 5)},
		"expr T{{}}":                          {nd(api.KComposite, 2, -1, 0, 5), nd(api.KName, 0, 0, 0, 1), nd(api.KElems, 1, -1, 2, 4), nd(api.KComposite, 2, -1, 2, 4), nd(api.KNone, 0, -1, 2, 2), nd(api.KElems, 0, -1, 3, 3)},
		"type <-chan a":                       {nd(api.KChanOf, 1, 0, 0, 3), nd(api.KName, 0, 2, 2, 3)},
		"type chan<- a":                       {nd(api.KChanOf, 1, 0, 0, 3), nd(api.KName, 0, 2, 2, 3)},
		"type *a":                             {nd(api.KStar, 1, -1, 0, 2), nd(api.KName, 0, 1, 1, 2)},
		"type func(...a,)":                    {nd(api.KFuncType, 1, -1, 0, 6), nd(api.KSignature, 2, -1, 1, 6), nd(api.KParams, 1, -1, 1, 6), nd(api.KParam, 2, 2, 2, 4), nd(api.KNone, 0, -1, 2, 2), nd(api.KName, 0, 3, 3, 4), nd(api.KNone, 0, -1, 6, 6)},
		"type struct{a b;}":                   {nd(api.KStruct, 1, -1, 0, 6), nd(api.KFields, 1, -1, 2, 4), nd(api.KField, 3, -1, 2, 4), nd(api.KNames, 1, -1, 2, 3), nd(api.KName, 0, 2, 2, 3), nd(api.KName, 0, 3, 3, 4), nd(api.KNone, 0, -1, 4, 4)},
		"type interface{}":                    {nd(api.KInterface, 1, -1, 0, 3), nd(api.KMethods, 0, -1, 2, 2)},
		"stmts ;a;":                           {nd(api.KStmts, 2, -1, 0, 2), nd(api.KEmpty, 0, -1, 0, 0), nd(api.KExprStmt, 1, -1, 1, 2), nd(api.KName, 0, 1, 1, 2)},
		"stmts a;;":                           {nd(api.KStmts, 2, -1, 0, 2), nd(api.KExprStmt, 1, -1, 0, 1), nd(api.KName, 0, 0, 0, 1), nd(api.KEmpty, 0, -1, 2, 2)},
		"stmts ":                              {nd(api.KStmts, 0, -1, 0, 0)},
		"stmts a:":                            {nd(api.KStmts, 1, -1, 0, 2), nd(api.KLabeled, 2, -1, 0, 2), nd(api.KName, 0, 0, 0, 1), nd(api.KEmpty, 0, -1, 2, 2)},
		"stmts return":                        {nd(api.KStmts, 1, -1, 0, 1), nd(api.KReturn, 1, -1, 0, 1), nd(api.KExprs, 0, -1, 1, 1)},
		"stmts break":                         {nd(api.KStmts, 1, -1, 0, 1), nd(api.KBranch, 1, 0, 0, 1), nd(api.KNone, 0, -1, 1, 1)},
		"stmts a += b":                        {nd(api.KStmts, 1, -1, 0, 3), nd(api.KAssign, 2, 1, 0, 3), nd(api.KExprs, 1, -1, 0, 1), nd(api.KName, 0, 0, 0, 1), nd(api.KExprs, 1, -1, 2, 3), nd(api.KName, 0, 2, 2, 3)},
		"stmts if a {;}":                      {nd(api.KStmts, 1, -1, 0, 5), nd(api.KIf, 4, -1, 0, 5), nd(api.KNone, 0, -1, 1, 1), nd(api.KName, 0, 1, 1, 2), nd(api.KBlock, 1, -1, 2, 5), nd(api.KStmts, 1, -1, 3, 3), nd(api.KEmpty, 0, -1, 3, 3), nd(api.KNone, 0, -1, 5, 5)},
		"stmts if ; a {}":                     {nd(api.KStmts, 1, -1, 0, 5), nd(api.KIf, 4, -1, 0, 5), nd(api.KNone, 0, -1, 1, 1), nd(api.KName, 0, 2, 2, 3), nd(api.KBlock, 1, -1, 3, 5), nd(api.KStmts, 0, -1, 4, 4), nd(api.KNone, 0, -1, 5, 5)},
		"stmts switch a; {}":                  {nd(api.KStmts, 1, -1, 0, 5), nd(api.KSwitch, 3, -1, 0, 5), nd(api.KExprStmt, 1, -1, 1, 2), nd(api.KName, 0, 1, 1, 2), nd(api.KNone, 0, -1, 3, 3), nd(api.KClauses, 0, -1, 4, 4)},
		"stmts switch a;b.(type){default:c;}": {nd(api.KStmts, 1, -1, 0, 14), nd(api.KTypeSwitch, 4, -1, 0, 14), nd(api.KExprStmt, 1, -1, 1, 2), nd(api.KName, 0, 1, 1, 2), nd(api.KNone, 0, -1, 3, 3), nd(api.KName, 0, 3, 3, 4), nd(api.KClauses, 1, -1, 9, 13), nd(api.KCase, 2, -1, 9, 13), nd(api.KNone, 0, -1, 10, 10), nd(api.KStmts, 1, -1, 11, 12), nd(api.KExprStmt, 1, -1, 11, 12), nd(api.KName, 0, 11, 11, 12)},
		"stmts for {}":                        {nd(api.KStmts, 1, -1, 0, 3), nd(api.KFor, 4, -1, 0, 3), nd(api.KNone, 0, -1, 1, 1), nd(api.KNone, 0, -1, 1, 1), nd(api.KNone, 0, -1, 1, 1), nd(api.KBlock, 1, -1, 1, 3), nd(api.KStmts, 0, -1, 2, 2)},
		"stmts for a {}":                      {nd(api.KStmts, 1, -1, 0, 4), nd(api.KFor, 4, -1, 0, 4), nd(api.KNone, 0, -1, 1, 1), nd(api.KName, 0, 1, 1, 2), nd(api.KNone, 0, -1, 2, 2), nd(api.KBlock, 1, -1, 2, 4), nd(api.KStmts, 0, -1, 3, 3)},
		"stmts for ;; {}":                     {nd(api.KStmts, 1, -1, 0, 5), nd(api.KFor, 4, -1, 0, 5), nd(api.KNone, 0, -1, 1, 1), nd(api.KNone, 0, -1, 2, 2), nd(api.KNone, 0, -1, 3, 3), nd(api.KBlock, 1, -1, 3, 5), nd(api.KStmts, 0, -1, 4, 4)},
		"stmts for a = range b {}":            {nd(api.KStmts, 1, -1, 0, 7), nd(api.KRange, 3, 2, 0, 7), nd(api.KExprs, 1, -1, 1, 2), nd(api.KName, 0, 1, 1, 2), nd(api.KName, 0, 4, 4, 5), nd(api.KBlock, 1, -1, 5, 7), nd(api.KStmts, 0, -1, 6, 6)},
		"file package p; import . \"a\"; type b = c": {nd(api.KFile, 3, -1, 0, 12), nd(api.KName, 0, 1, 1, 2), nd(api.KDecls, 1, -1, 3, 6), nd(api.KGenOne, 1, 3, 3, 6), nd(api.KImportSpec, 2, 4, 4, 6), nd(api.KNone, 0, -1, 4, 4), nd(api.KLit, 0, 5, 5, 6), nd(api.KDecls, 1, -1, 7, 11), nd(api.KGenOne, 1, 7, 7, 11), nd(api.KTypeSpec, 3, 9, 8, 11), nd(api.KName, 0, 8, 8, 9), nd(api.KNone, 0, -1, 9, 9), nd(api.KName, 0, 10, 10, 11)},
		"file package p; func f(); var (a b;)":       {nd(api.KFile, 3, -1, 0, 15), nd(api.KName, 0, 1, 1, 2), nd(api.KDecls, 0, -1, 3, 3), nd(api.KDecls, 2, -1, 3, 14), nd(api.KFuncDecl, 5, -1, 3, 7), nd(api.KNone, 0, -1, 4, 4), nd(api.KName, 0, 4, 4, 5), nd(api.KNone, 0, -1, 5, 5), nd(api.KSignature, 2, -1, 5, 7), nd(api.KParams, 0, -1, 5, 7), nd(api.KNone, 0, -1, 7, 7), nd(api.KNone, 0, -1, 7, 7), nd(api.KGenMany, 1, 8, 8, 14), nd(api.KValueSpec, 3, -1, 10, 12), nd(api.KNames, 1, -1, 10, 11), nd(api.KName, 0, 10, 10, 11), nd(api.KName, 0, 11, 11, 12), nd(api.KNone, 0, -1, 12, 12)},
	} {
		g, text := goal(s)
		p, f := syntax.Parse(g, text)
		if f != (api.Fault{}) || len(p.Nodes) != len(want) {
			t.Errorf("%s: %v, %v", s, p.Nodes, f)
			continue
		}
		for i, n := range p.Nodes {
			if n != want[i] {
				t.Errorf("%s: node %d is %v, want %v", s, i, n, want[i])
			}
		}
	}
}

// show is a text's term as a text, or its fault.
func show(g uint8, s string) string {
	l, f := syntax.Term(g, s)
	if f != (api.Fault{}) {
		return "fault"
	}
	x, _ := term.Show(l)
	return x
}

// TestP12_3: trees, other blanks, brackets, and statements behind one another.
func TestP12_3(t *testing.T) {
	d := trials.New(12)
	for i := 0; i < 6000; i++ {
		g := uint8(1 + i%4)
		s := trials.Text(g, d, 1+i%4)
		p, f := syntax.Parse(g, s)
		if f != (api.Fault{}) || tree.Check(p.Nodes, len(p.Tokens)) != api.OK {
			t.Fatalf("Parse(%q) = %v, Check %d", s, f, tree.Check(p.Nodes, len(p.Tokens)))
		}
		l, f := syntax.Term(g, s)
		if f != (api.Fault{}) || term.Check(l) != api.OK || len(l) != len(p.Nodes) {
			t.Fatalf("Term(%q) = %v", s, f)
		}
		for j, n := range p.Nodes {
			if l[j].Kind != n.Kind || l[j].Kids != n.Kids || n.Kind != api.KChanOf && n.Word >= 0 && l[j].Word != s[p.Tokens[n.Word].From:p.Tokens[n.Word].To] || n.Word < 0 && l[j].Word != "" {
				t.Fatalf("Term(%q): part %d is %v of %v", s, j, l[j], n)
			}
		}
		want := show(g, s)
		for _, gap := range []string{"\t  ", " /* c */ ", " \r/**/ "} {
			if other := strings.ReplaceAll(s, " ", gap); show(g, other) != want {
				t.Fatalf("%q is read otherwise than %q", other, s)
			}
		}
		if g == api.GExpr {
			if got := show(g, "("+s+")"); got != "(28 "+want+")" {
				t.Fatalf("(%s) is read as %s", s, got)
			}
		}
		if g == api.GStmts {
			more := trials.Text(g, d, 2)
			both, _ := syntax.Term(g, s+"\n"+more)
			one, two := l, term2(more)
			sum := append(append([]api.Part{{Kind: api.KStmts, Kids: one[0].Kids + two[0].Kids}}, one[1:]...), two[1:]...)
			if !term.Same(both, sum) {
				t.Fatalf("%q and %q together are read otherwise", s, more)
			}
		}
	}
}

func term2(s string) []api.Part {
	l, _ := syntax.Term(api.GStmts, s)
	return l
}

// TestP2: blanks and comments change no term, but for line ends that put semicolons in.
func TestP2(t *testing.T) {
	for _, c := range [][2]string{{"a+b", "a /*x*/ + // y\n b"}, {"f(a,b)", "f (\na,\nb,\n)"}, {"a;b", "a\nb"}, {"if a {b}", "if a {\nb\n}\n"}, {"x.y", "x.\ny"}} {
		if show(api.GStmts, c[0]) != show(api.GStmts, c[1]) || show(api.GStmts, c[0]) == "fault" {
			t.Errorf("%q and %q are read otherwise", c[0], c[1])
		}
	}
	if show(api.GStmts, "f(a\n)") != "fault" || show(api.GStmts, "return\na") == show(api.GStmts, "return a") {
		t.Error("a line end put no semicolon in")
	}
}

// TestR1: torn texts, and deep ones, are answered.
func TestR1(t *testing.T) {
	d := trials.New(1)
	for i := 0; i < 4000; i++ {
		s := trials.Text(uint8(1+i%4), d, 3)
		words := strings.Fields(s)
		if len(words) > 0 {
			j := d.Roll(len(words))
			switch d.Roll(3) {
			case 0:
				words[j] = ""
			case 1:
				words = words[:j]
			case 2:
				words[j] = words[d.Roll(len(words))]
			}
		}
		torn := strings.Join(words, " ")
		for g := uint8(1); g <= 4; g++ {
			p, f := syntax.Parse(g, torn)
			if f == (api.Fault{}) && tree.Check(p.Nodes, len(p.Tokens)) != api.OK || f.Err == api.ErrSyntax && (f.At < 0 || f.At > len(torn)) {
				t.Fatalf("Parse(%d, %q) = %v", g, torn, f)
			}
		}
	}
	for _, c := range []struct {
		g uint8
		s string
	}{{api.GExpr, strings.Repeat("!", 65535) + "a"}, {api.GExpr, "a" + strings.Repeat(".b", 32000)}, {api.GExpr, "a" + strings.Repeat("[:]", 21000)}, {api.GType, strings.Repeat("[]", 32000) + "a"}, {api.GStmts, strings.Repeat("a:", 32000)}, {api.GStmts, strings.Repeat("if a{}else ", 5000) + "{}"}, {api.GStmts, strings.Repeat(";", 65536)}, {api.GFile, "package p;const(" + strings.Repeat("a;", 32000) + ")"}, {api.GExpr, strings.Repeat("func()", 9000)}} {
		p, f := syntax.Parse(c.g, c.s)
		if f != (api.Fault{}) || tree.Check(p.Nodes, len(p.Tokens)) != api.OK {
			t.Errorf("Parse of %.20q = %v", c.s, f)
		}
	}
}

// TestR3: answers are new each time.
func TestR3(t *testing.T) {
	p, _ := syntax.Parse(api.GExpr, "a+b")
	p.Nodes[0].Kind, p.Tokens[0].To = 0, 9
	q, _ := syntax.Parse(api.GExpr, "a+b")
	if q.Nodes[0].Kind != api.KBinary || q.Tokens[0].To != 1 {
		t.Error("an answer is kept")
	}
}
