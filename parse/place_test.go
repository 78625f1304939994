package parse_test

import "testing"

// P6.1: an expression stands where its first token does, of an EWhen where what it samples does; parentheses leave no trace.
func TestPlacesOfExpressions(t *testing.T) {
	for _, x := range [][2]string{
		{"1 + 2 * x", "(+@1:1 1@1:1 (*@1:5 2@1:5 x@1:9))"},
		{" \n a", "a@2:2"}, {"  true", "true@1:3"}, {"  false", "false@1:3"}, {" Red", "Red@1:2"}, {" 12", "12@1:2"}, {" last\nx", "last:x@1:2"},
		{" - 1", "-1@1:2"}, {"- a", "(neg@1:1 a@1:3)"}, {"not not a", "(not@1:1 (not@1:5 a@1:9))"}, {"pre -1", "(pre@1:1 -1@1:5)"},
		{"a - b - c", "(-@1:1 (-@1:1 a@1:1 b@1:5) c@1:9)"},
		{"a or b and c = d + e * - g", "(or@1:1 a@1:1 (and@1:6 b@1:6 (=@1:12 c@1:12 (+@1:16 d@1:16 (*@1:20 e@1:20 (neg@1:24 g@1:26))))))"},
		{"a -> 0 fby b", "(->@1:1 a@1:1 (fby@1:6 0@1:6 b@1:12))"},
		{"if a then b else c", "(if@1:1 a@1:4 b@1:11 c@1:18)"},
		{"a when C(v) when D(w)", "(when@1:1 (when@1:1 a@1:1 C:v) D:w)"},
		{"-1 when C(v)", "(when@1:1 -1@1:1 C:v)"},
		{"not a when C(v)", "(not@1:1 (when@1:5 a@1:5 C:v))"},
		{" merge v (C -> a) (D -> b)", "(merge@1:2 v C:a@1:16 D:b@1:25)"},
		// parentheses
		{"(a)", "a@1:2"}, {"((a + b))", "(+@1:3 a@1:3 b@1:7)"}, {"(-1)", "-1@1:2"},
		{"a + (b + c)", "(+@1:1 a@1:1 (+@1:6 b@1:6 c@1:10))"},
		{"(a) + b", "(+@1:1 a@1:2 b@1:7)"}, {"x = (a) * b", "(=@1:1 x@1:1 (*@1:5 a@1:6 b@1:11))"}, {"((a) + b)", "(+@1:2 a@1:3 b@1:8)"}, {"(a) + b + c", "(+@1:1 (+@1:1 a@1:2 b@1:7) c@1:11)"},
		{"(a) -> b", "(->@1:1 a@1:2 b@1:8)"}, {"(1) fby b", "(fby@1:1 1@1:2 b@1:9)"},
		{"(a) when C(v)", "(when@1:2 a@1:2 C:v)"}, {"((a + b)) when C(v) when D(w)", "(when@1:3 (when@1:3 (+@1:3 a@1:3 b@1:7) C:v) D:w)"},
		{"(a) when C(v) + b", "(+@1:1 (when@1:2 a@1:2 C:v) b@1:17)"},
		{"not (a)", "(not@1:1 a@1:6)"},
		{"if (a) then (b) else (c)", "(if@1:1 a@1:5 b@1:14 c@1:23)"},
		{"merge v (C -> (a))", "(merge@1:1 v C:a@1:16)"},
	} {
		hold(t, x[0], teller{places: true}.expr(expr(t, x[0])), x[1])
	}
}

// P6.1: of a type, a node, a variable and an arm it is the place of the name, of a transition that of unless or until, of the arm of a reset that of the equation.
func TestPlacesOfPrograms(t *testing.T) {
	const text = `type t
  = A | B;
node f (a: int; last
  b: int = -1) returns (x: t)
var c: int when A(x); last d: int
  = (2);
let
  x = A;
  (c) = f(a, (b)) every (a) = b;
  () = f();
  switch (c)
  | true var e: int; do e = 1;
  | false do end;
  automaton | S do
      unless a then S until b
      continue T
    | T do until (c) then S end;
  reset
    do reset do every a;
  every (b);
tel node
  g() returns () let tel`
	const want = `type t@1:6 A|B
node f@3:6 [a@3:9:int last:b@4:3:int=-1@4:12] [x@4:25:enum-t] [c@5:5:int/A:x last:d@5:28:int=2@6:6]` +
		` (def@8:3 x A@8:7)` +
		` (call@9:3 c f a@9:11 b@9:15 every (=@9:25 a@9:26 b@9:31))` +
		` (call@10:3  f)` +
		` (switch@11:3 c@11:11 <true@12:5 [e@12:14:int] (def@12:25 e 1@12:29)> <false@13:5>)` +
		` (auto@14:3 <S@14:15 (unless@15:7 a@15:14 then S) (until@15:23 b@15:29 continue T)> <T@17:7 (until@17:12 c@17:19 then S)>)` +
		` (reset@18:3 <@18:3 (reset@19:8 <@19:8> a@19:23)> b@20:10)
node g@22:3 [] []
`
	hold(t, text, teller{places: true}.program(program(t, text)), want)
}
