"""Whole programs: some written by hand with what they tell, and random ones that are accepted."""

from shapewright.basis import BASIS
from shapewright.context import extended
from shapewright.structures import declare_all
from shapewright.terms import variables
from shapewright.trees import is_program
from typed import Typed

# Texts with the lines of the report, the end and the output.
ACCEPTED = [
    ("", [], ("value", "{}"), ()),
    ("val x = 1 val x = True", ["val x : bool"], ("value", "{val x = True}"), ()),
    ("rec fact : int -> int = fn 0 => 1 | n => n * fact (n - 1) val x = fact 10", ["val fact : int -> int", "val x : int"], ("value", "{val fact = fn, val x = 3628800}"), ()),
    ("rec even = fn 0 => True | n => odd (n - 1) and odd = fn 0 => False | n => even (n - 1) val b = (even 10, odd 10)",
     ["val even : int -> bool", "val odd : int -> bool", "val b : bool * bool"], ("value", "{val b = (True, False), val even = fn, val odd = fn}"), ()),
    ("val swap = fn (a, b) => (b, a) val t = swap (1, True)", ["val swap : 'a * 'b -> 'b * 'a", "val t : bool * int"], ("value", "{val swap = fn, val t = (True, 1)}"), ()),
    ("rec map = fn (f, Nil) => Nil | (f, x :: r) => f x :: map (f, r) val l = map (fn x => x + 1, 1 :: 2 :: Nil)",
     ["val map : ('a -> 'b) * 'a list -> 'b list", "val l : int list"], ("value", "{val l = Cons (2, Cons (3, Nil)), val map = fn}"), ()),
    ("variant 'a tree = Leaf | Node of 'a tree * 'a * 'a tree rec insert = fn (x, Leaf) => Node (Leaf, x, Leaf) | (x, Node (l, y, r)) => "
     "if x < y then Node (insert (x, l), y, r) else Node (l, y, insert (x, r)) val t = insert (3, insert (1, insert (2, Leaf)))",
     ["shape 'a tree", "con Leaf : 'a tree", "con Node : 'a tree * 'a * 'a tree -> 'a tree", "val insert : int * int tree -> int tree", "val t : int tree"],
     ("value", "{val insert = fn, val t = Node (Node (Leaf, 1, Leaf), 2, Node (Leaf, 3, Leaf))}"), ()),
    ("exception Bad of int exception Worse val f = fn 0 => raise Worse | n => raise Bad n val a = f 3 handle Bad n => n | Worse => 0 val b = f 0 handle Bad n => n | Worse => 7",
     ["exception Bad of int", "exception Worse", "val f : int -> 'a", "val a : int", "val b : int"], ("value", "{val a = 3, val b = 7, val f = fn, exn Bad = Bad, exn Worse = Worse}"), ()),
    ("val u = print 1 val x = 1 div 0 val v = print 2", ["val u : unit", "val x : int", "val v : unit"], ("raised", "Div"), (1,)),
    ("exception E of int val x : int = raise E 4", ["exception E of int", "val x : int"], ("raised", "E 4"), ()),
    ("val u = print 3 val v = (print 4; print 5; 6)", ["val u : unit", "val v : int"], ("value", "{val u = (), val v = 6}"), (3, 4, 5)),
    ("val r = ref 1 val u = r := !r + 1 val v = !r", ["val r : int ref", "val u : unit", "val v : int"], ("value", "{val r = ref 2, val u = (), val v = 2}"), ()),
    ("val f = fn 0 => 1 val x = f 2", ["val f : int -> int", "val x : int"], ("raised", "Match"), ()),
    ("val (Some x) = None : int option", ["val x : int"], ("raised", "Bind"), ()),
    ("val b = (fn x => x) = (fn x => x)", ["val b : bool"], ("raised", "Equality"), ()),
    ("val b = (fn x => x) <> (fn x => x)", ["val b : bool"], ("raised", "Equality"), ()),
    ("module M = struct val x = 1 variant t = A | B of int exception E val f = fn A => 0 | B n => n end val y = M.f (M.B 3)",
     ["module M = sig", "  val f : M.t -> int", "  val x : int", "  shape t", "  con A : M.t", "  con B : int -> M.t", "  exception E", "end", "val y : int"],
     ("value", "{val y = 3, mod M = {val f = fn, val x = 1, exn E = E}}"), ()),
    ("module M = struct variant t = A of int val x = A 1 val f = fn A n => n end :> sig shape t val x : t val f : t -> int end val y = M.f M.x",
     ["module M = sig", "  val f : M.t -> int", "  val x : M.t", "  shape t", "end", "val y : int"], ("value", "{val y = 1, mod M = {val f = fn, val x = A 1}}"), ()),
    ("signature S = sig shape t val x : t val f : t -> int end functor F (X : S) = struct val y = X.f X.x variant s = C of X.t val z = C X.x end "
     "module A = F (struct alias t = int val x = 4 val f = fn n => n + 1 end) module B = F (struct alias t = bool val x = True val f = fn b => if b then 1 else 2 end) val p = (A.y, B.y)",
     ["signature S", "functor F", "module A = sig", "  val y : int", "  val z : A.s", "  shape s", "  con C : int -> A.s", "end",
      "module B = sig", "  val y : int", "  val z : B.s", "  shape s", "  con C : bool -> B.s", "end", "val p : int * int"],
     ("value", "{val p = (5, 1), mod A = {val y = 5, val z = C 4}, mod B = {val y = 1, val z = C True}, fun F = fn}"), ()),
    ("module M = struct module N = struct variant 'a t = A of 'a end end open M open N val x = A 1",
     ["module M = sig", "  module N = sig", "    alias 'a t = 'a t", "    con A : 'a -> 'a t", "  end", "end", "module N = sig", "  alias 'a t = 'a t", "  con A : 'a -> 'a t", "end",
      "shape 'a t", "con A : 'a -> 'a t", "val x : int t"], ("value", "{val x = A 1, mod M = {mod N = {}}, mod N = {}}"), ()),
    ("variant t = A val x = A variant t = B val y = x", ["con A : ?8", "val x : ?8", "shape t", "con B : t", "val y : ?8"], ("value", "{val x = A, val y = A}"), ()),
    ("alias ('a, 'b) p = 'b * 'a val x = (1, True) : (bool, int) p", ["alias ('a, 'b) p = 'b * 'a", "val x : int * bool"], ("value", "{val x = (1, True)}"), ()),
    ("signature S = sig shape t end module M = struct alias t = int val x = 1 end :> sig include S val x : t end where t = int val y = M.x + 1",
     ["signature S", "module M = sig", "  val x : int", "  alias t = int", "end", "val y : int"], ("value", "{val y = 2, mod M = {val x = 1}}"), ()),
    ("exception E functor F (X : sig end) = struct exception E val e = E end module A = F (struct end) module B = F (struct end) "
     "val x = (raise A.e) handle B.E => 1 | A.E => 2 | E => 3",
     ["exception E", "functor F", "module A = sig", "  val e : exn", "  exception E", "end", "module B = sig", "  val e : exn", "  exception E", "end", "val x : int"],
     ("value", "{val x = 2, exn E = E, mod A = {val e = E, exn E = E}, mod B = {val e = E, exn E = E}, fun F = fn}"), ()),
    ("val (+) = fn (a, b) => a - b val x = 5 + 3", ["val + : int * int -> int", "val x : int"], ("value", "{val + = fn, val x = 2}"), ()),
    ("val r = ref Nil val u = r := (1 :: Nil) val l = !r", ["val r : int list ref", "val u : unit", "val l : int list"], ("value", "{val l = Cons (1, Nil), val r = ref (Cons (1, Nil)), val u = ()}"), ()),
    ("rec loop = fn x => loop x val y = fn () => loop 1", ["val loop : 'a -> 'b", "val y : unit -> 'a"], ("value", "{val loop = fn, val y = fn}"), ()),
    ("rec f : all 'a . 'a -> int -> int = fn x => fn 0 => 0 | n => 1 + f (x, x) (n - 1) val y = f True 6", ["val f : 'a -> int -> int", "val y : int"], ("value", "{val f = fn, val y = 6}"), ()),
    ("variant 'a nest = End | More of 'a * ('a * 'a) nest rec len : all 'a . 'a nest -> int = fn End => 0 | More (_, r) => 1 + len r val n = len (More (1, More ((2, 3), End)))",
     ["shape 'a nest", "con End : 'a nest", "con More : 'a * ('a * 'a) nest -> 'a nest", "val len : 'a nest -> int", "val n : int"], ("value", "{val len = fn, val n = 2}"), ()),
]


class Wholes(Typed):
    """Random programs. The context is the one that the declarations so far give."""

    def program(self, count=5):
        """An accepted program within the bounds."""
        while True:
            decs, context = [], BASIS
            for _ in range(count):
                dec = self.declaration(context, 3)
                decs.append(dec)
                context = declare_all(context, (dec,))[1]
            if is_program(tuple(decs)):
                return tuple(decs)

    def declaration(self, context, deep):
        roll = self.random.random()
        modules = [entry[1] for entry in context[0] if entry[0] == "module"]
        functors = [entry for entry in context[0] if entry[0] == "functor"]
        if roll < 0.12 and modules:
            return ("open", (self.random.choice(modules),))
        if roll < 0.3 and deep > 1:
            return ("module", self.random.choice("MNP"), self.structure(context, deep - 1))
        if roll < 0.4 and deep > 1:
            return self.functor(context, deep - 1)
        if roll < 0.55 and functors:
            entry = self.random.choice(functors)
            last = [other for other in functors if other[1] == entry[1]][-1]
            if last[2][1] and last[2][1][0][:2] == ("val", "arg"):
                return ("module", "R", ("apply", (entry[1],), self.argument()))
        word = self.random.choice(["val", "closed", "plain", "fixed", "exception", "val"])
        return getattr(self, "make_" + word)(context, deep)[0]

    def argument(self):
        return ("struct", (("alias", (), "t", ("sname", ("int",), ())), ("val", ("pvar", "arg"), ("int", self.random.randrange(9)))))

    def functor(self, context, deep):
        specs = (("shape", (), "t"), ("val", "arg", ((), ("sname", ("t",), ()))))
        decs = [("val", ("pvar", "got"), ("var", ("X", "arg"))), ("exception", "X", ("sname", ("X", "t"), ()))]
        # The parameter's shape has no name here, so that these two are used nowhere.
        hidden = ("c", 999999, ())
        inner = extended(context, [("val", "got", (0, hidden)), ("exn", "X", hidden)])
        for _ in range(self.random.randrange(2)):
            dec, _, entries = self.make_closed(inner, deep)
            decs.append(dec)
            inner = extended(inner, entries)
        return ("functor", self.random.choice("FG"), "X", ("sig", specs), ("struct", tuple(decs)))

    def structure(self, context, deep):
        decs, inner = [], context
        for _ in range(self.random.randrange(4)):
            dec = self.declaration(inner, deep)
            decs.append(dec)
            inner = declare_all(inner, (dec,))[1]
        tree = ("struct", tuple(decs))
        roll = self.random.random()
        if roll < 0.5:
            return tree
        entries = declare_all(context, (("module", "M", tree),))[0]
        return ("sees" if roll < 0.75 else "seals", tree, ("sig", self.specs(entries[0][2])))

    def specs(self, level):
        """Specs of some values and exceptions of a level."""
        found = []
        for entry in level:
            if entry[0] == "val" and self.random.random() < 0.7:
                names = {number: f"a{number}" for number in variables(entry[2][1])}
                if all(number < 4 for number in names) and self.is_plain_shape(entry[2][1]):
                    found.append(("val", entry[1], (tuple(names[k] for k in sorted(names)), self.surface(entry[2][1], names))))
            elif entry[0] == "exn" and self.random.random() < 0.7 and (entry[2] is None or self.is_plain_shape(entry[2])):
                found.append(("exception", entry[1], None if entry[2] is None else self.surface(entry[2], {})))
        return tuple(found[:12])

    def is_plain_shape(self, shape):
        if shape[0] == "c" and shape[1] > 6:
            return False
        return all(self.is_plain_shape(part) for part in (shape[1:] if shape[0] == "f" else shape[-1] if shape[0] != "v" else ()))


def random_programs(count, start=0, decs=5):
    found = []
    seed = start
    while len(found) < count:
        program = Wholes(seed, BASIS[1]).program(decs)
        found.append(program)
        seed += 1
    return found


