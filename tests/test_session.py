"""Sessions: points 10.11 to 10.14."""

import unittest

from shapewright.agreement import agrees
from shapewright.basis import BASIS
from shapewright.context import free_variables, lookup
from shapewright.errors import BadModule, DuplicateName, NotShaped, NotWellFormed, UnknownName, Weak
from shapewright.reader import read_program
from shapewright.report import report
from shapewright.rows import value_of
from shapewright.session import Session
from shapewright.whole import check_program
from wholes import ACCEPTED, random_programs


class Talk:
    """A session that is given texts, with a look at its values after each of them."""

    def __init__(self, test):
        self.test = test
        self.session = Session()

    def enter(self, text, fuel=10000):
        return self.enter_program(read_program(text), fuel)

    def enter_program(self, program, fuel=10000):
        result = self.session.enter(program, fuel)
        self.look()
        return result

    def look(self):
        """Each entry for a value has a binding whose value agrees with its shape."""
        entries = self.session.context()[0]
        for index, entry in enumerate(entries):
            if entry[0] == "val" and lookup(entries, "val", (entry[1],)) is entry:
                value = value_of(self.session.environment, entry[1])
                self.test.assertIsNotNone(value, entry)
                self.test.assertTrue(agrees(entries, entry[2][1], value, self.session.store, 12), (entry, value))

    def refuses(self, kind, text):
        before = self.state()
        with self.test.assertRaises(kind) as caught:
            self.enter(text)
        self.test.assertEqual(self.state(), before)
        return caught.exception

    def state(self):
        session = self.session
        return session.context(), session.output(), session.lines(), session.weak_names(), session.environment, session.store, session.made


class Sessions(unittest.TestCase):
    def test_a_new_session(self):
        session = Session()
        self.assertEqual(session.context(), BASIS)
        self.assertEqual((session.weak_names(), session.output(), session.lines()), ([], (), []))
        self.assertEqual(session.enter((), 100), ([], ("value", "{}")))
        self.assertEqual(session.context(), BASIS)

    def test_later_inputs_see_earlier_ones(self):
        talk = Talk(self)
        self.assertEqual(talk.enter("val x = 3"), (["val x : int"], ("value", "{val x = 3}")))
        self.assertEqual(talk.enter("val y = x + 1 exception E of int"), (["val y : int", "exception E of int"], ("value", "{val y = 4, exn E = E}")))
        self.assertEqual(talk.enter("val z = (raise E y) handle E n => n * x"), (["val z : int"], ("value", "{val z = 12}")))
        self.assertEqual(talk.enter("val x = True val w = (x, z)"), (["val x : bool", "val w : bool * int"], ("value", "{val w = (True, 12), val x = True}")))
        self.assertEqual(talk.enter("module M = struct val x = 7 exception E end"), (["module M = sig", "  val x : int", "  exception E", "end"], ("value", "{mod M = {val x = 7, exn E = E}}")))
        self.assertEqual(talk.enter("functor F (X : sig val x : int end) = struct val y = X.x + M.x end")[1], ("value", "{fun F = fn}"))
        self.assertEqual(talk.enter("module A = F (M) val v = A.y")[1], ("value", "{val v = 14, mod A = {val y = 14}}"))
        self.assertEqual(talk.enter("open M val u = (x, (raise E) handle M.E => 1 | _ => 2)")[1], ("value", "{val u = (7, 1), val x = 7, exn E = E}"))
        self.assertEqual(talk.enter("rec even = fn 0 => True | n => odd (n - 1) and odd = fn 0 => False | n => even (n - 1)")[1][0], "value")
        self.assertEqual(talk.enter("val b = even 7")[1], ("value", "{val b = False}"))
        self.assertEqual(talk.enter("signature S = sig shape t val x : t end module N = M :> sig val x : int end"), (["signature S", "module N = sig", "  val x : int", "end"], ("value", "{mod N = {val x = 7}}")))
        self.assertEqual(talk.enter("module K = struct alias t = int val x = 1 end :> S")[0], ["module K = sig", "  val x : K.t", "  shape t", "end"])
        self.assertEqual(talk.session.weak_names(), [])

    def test_references_and_output_stay(self):
        talk = Talk(self)
        talk.enter("val r = ref 1 val u = print 5")
        self.assertEqual(talk.enter("val u = r := !r + 1 val v = (print (!r); !r)"), (["val u : unit", "val v : int"], ("value", "{val u = (), val v = 2}")))
        self.assertEqual(talk.session.output(), (5, 2))
        talk.enter("val s = ref r")
        self.assertEqual(talk.enter("val t = !s")[1], ("value", "{val t = ref 2}"))
        self.assertEqual(talk.enter("val same = (r = t, r = ref 2)")[1], ("value", "{val same = (True, False)}"))

    def test_exceptions_of_different_inputs_are_different(self):
        talk = Talk(self)
        talk.enter("exception E val f = fn () => raise E")
        talk.enter("exception E")
        self.assertEqual(talk.enter("val x = (f () : int) handle E => 1 | _ => 2")[1], ("value", "{val x = 2}"))

    def test_an_input_that_raises(self):
        talk = Talk(self)
        talk.enter("val r = ref 1 exception E")
        before = talk.session.context()
        environment = talk.session.environment
        result = talk.enter("val a = (r := 8; print 3; 5) exception F val b = raise (if a = 5 then F else E) variant t = T")
        self.assertEqual(result, (["val a : int", "exception F", "val b : '_1", "shape t", "con T : t"], ("raised", "F")))
        self.assertEqual(talk.session.context()[0], before[0])
        self.assertEqual(talk.session.context()[1], (*before[1], 0))
        self.assertEqual(talk.session.environment, environment)
        self.assertEqual((talk.session.output(), talk.session.store[0], talk.session.made), ((3,), ("int", 8), 6))
        self.assertEqual(talk.enter("val c = !r")[1], ("value", "{val c = 8}"))
        talk.refuses(UnknownName, "val d = a")
        talk.refuses(UnknownName, "val d = T")
        self.assertEqual(talk.session.lines(), ["val r : int ref", "exception E", "val c : int"])
        # New stamps do not meet those of the input that raised.
        self.assertEqual(talk.enter("variant s = S of int val e = S 1")[0], ["shape s", "con S : int -> s", "val e : s"])
        self.assertEqual(talk.enter("val x = 1 div 0")[1], ("raised", "Div"))
        self.assertEqual(talk.enter("val x = raise E")[1], ("raised", "E"))
        self.assertEqual(talk.enter("val (Some x) = None : int option")[1], ("raised", "Bind"))

    def test_an_input_without_enough_fuel(self):
        talk = Talk(self)
        talk.enter("val r = ref 1 rec loop = fn n => (print n; r := n; loop (n + 1))")
        self.assertEqual(talk.enter("val x : int = loop 2", 300), (["val x : int"], ("fuel",)))
        printed = talk.session.output()
        self.assertEqual(printed, tuple(range(2, 2 + len(printed))))
        self.assertGreater(len(printed), 2)
        self.assertIn(talk.enter("val y = !r")[1], [("value", f"{{val y = {printed[-1] - k}}}") for k in (0, 1)])
        talk.refuses(UnknownName, "val z = x")
        self.assertEqual(talk.enter("val w = 1", 0), (["val w : int"], ("fuel",)))
        talk.refuses(UnknownName, "val z = w")

    def test_how_much_fuel_an_input_needs(self):
        needed = [fuel for fuel in range(200) if Session().enter(read_program("val x = 1 + 2"), fuel)[1] != ("fuel",)]
        self.assertEqual(needed, list(range(needed[0], 200)))
        self.assertEqual(Session().enter(read_program("val x = 1 + 2"), needed[0])[1], ("value", "{val x = 3}"))

    def test_inputs_that_are_refused(self):
        talk = Talk(self)
        talk.enter("val r = ref Nil val u = print 1 exception E")
        talk.refuses(NotShaped, "val s = r := 1 :: Nil val x = 1 2")
        talk.refuses(UnknownName, "val s = r := 1 :: Nil val x = nothing")
        talk.refuses(DuplicateName, "val s = r := 1 :: Nil rec f = fn x => x and f = fn x => x")
        self.assertEqual(talk.refuses(BadModule, "val s = r := 1 :: Nil module M = N").code, "module")
        for program in (None, (("val", ("pvar", "x"), ("int", True)),), [], (("exception", "E", None),) * 13):
            with self.assertRaises(NotWellFormed):
                talk.session.enter(program, 100)
        self.assertEqual(talk.session.lines(), ["val r : '_1 list ref", "val u : unit", "exception E"])
        self.assertEqual(talk.enter("val s = r := True :: Nil")[1], ("value", "{val s = ()}"))

    def test_refused_inputs_change_nothing_later(self):
        texts = ["val r = ref Nil", "variant t = A of int", "val x = A 1 val u = r := x :: Nil", "val y = (print 2; !r)", "exception E of t val z = (raise E x) handle E (A n) => n"]
        wrong = ["val a = 1 2", "variant q = Q val b = r := Q :: Nil val c = y z", "module M = struct variant k = K end :> sig val x : int end", "val r = (print 9; nothing)"]
        first, second = Talk(self), Talk(self)
        for index, text in enumerate(texts):
            with self.assertRaises(ValueError):
                second.enter(wrong[index % len(wrong)])
            self.assertEqual(first.enter(text), second.enter(text))
        self.assertEqual(first.session.lines(), second.session.lines())
        self.assertEqual(first.session.output(), second.session.output())

    def test_weak_variables_stay_open(self):
        talk = Talk(self)
        self.assertEqual(talk.enter("val r = ref Nil val s = ref None"), (["val r : '_1 list ref", "val s : '_1 option ref"], ("value", "{val r = ref Nil, val s = ref None}")))
        self.assertEqual(talk.enter("module M = struct val q = ref Nil val x = 1 end val p = (r, s)")[0], ["module M = sig", "  val q : '_1 list ref", "  val x : int", "end", "val p : '_1 list ref * '_2 option ref"])
        self.assertEqual(talk.session.weak_names(), ["r", "s", "M", "p"])
        self.assertEqual(talk.enter("val u = r := 7 :: Nil")[0], ["val u : unit"])
        self.assertEqual(talk.session.weak_names(), ["s", "M", "p"])
        lines = ["val r : int list ref", "val s : '_1 option ref", "module M = sig", "  val q : '_1 list ref", "  val x : int", "end", "val p : int list ref * '_1 option ref", "val u : unit"]
        self.assertEqual(talk.session.lines(), lines)
        talk.refuses(NotShaped, "val v = r := True :: Nil")
        talk.enter("val v = (s := Some True, M.q := () :: Nil)")
        self.assertEqual(talk.session.weak_names(), [])
        self.assertEqual(talk.session.lines()[:4], ["val r : int list ref", "val s : bool option ref", "module M = sig", "  val q : unit list ref"])
        self.assertEqual(talk.enter("val w = (!r, !s)")[1], ("value", "{val w = (Cons (7, Nil), Some True)}"))

    def test_weak_names_has_no_duplicates(self):
        talk = Talk(self)
        talk.enter("val b = ref Nil val a = ref Nil")
        talk.enter("val b = ref None")
        self.assertEqual(talk.session.weak_names(), ["b", "a"])
        talk.enter("val b = 1")
        # The earlier entries are hidden, but they are still entries of the context.
        self.assertEqual(talk.session.weak_names(), ["b", "a"])

    def test_an_input_that_raises_settles_weak_variables(self):
        talk = Talk(self)
        talk.enter("val r = ref Nil val q = ref Nil")
        self.assertEqual(talk.enter("val u = r := 7 :: Nil val v : int = raise Match")[1], ("raised", "Match"))
        self.assertEqual(talk.session.lines(), ["val r : int list ref", "val q : '_1 list ref"])
        self.assertEqual(talk.enter("val w = !r")[1], ("value", "{val w = Cons (7, Nil)}"))
        self.assertEqual(talk.enter("val v = q := True :: Nil", 3)[1], ("fuel",))
        self.assertEqual(talk.session.lines(), ["val r : int list ref", "val q : bool list ref", "val w : int list"])
        self.assertEqual(talk.enter("val w = !q")[1], ("value", "{val w = Nil}"))

    def test_a_weak_variable_may_be_settled_by_a_shape_of_an_input_that_raises(self):
        talk = Talk(self)
        talk.enter("val r = ref Nil")
        talk.enter("variant t = T val u = r := T :: Nil val v : int = raise Match")
        line, = talk.session.lines()
        self.assertEqual(line, "val r : ?8 list ref")
        self.assertEqual(talk.enter("variant s = S val l = !r"), (["shape s", "con S : s", "val l : ?8 list"], ("value", "{val l = Cons (T, Nil)}")))

    def test_programs_as_one_input_and_in_parts(self):
        for text, lines, end, output in ACCEPTED:
            whole, parts = Talk(self), Talk(self)
            self.assertEqual(whole.enter(text, 100000), (lines, end), text)
            self.assertEqual(whole.session.output(), output)
            for declaration in read_program(text):
                result = parts.enter_program((declaration,), 100000)
                if result[1][0] != "value":
                    self.assertEqual(result[1], end)
                    break
            else:
                self.assertEqual(parts.session.context(), whole.session.context())
                self.assertEqual(parts.session.lines(), lines)
            self.assertEqual(parts.session.output(), output)

    def test_random_inputs(self):
        ends = {}
        for start in range(0, 60, 6):
            talk = Talk(self)
            for program in random_programs(6, start=7000 + start, decs=2):
                try:
                    lines, end = talk.enter_program(program, 2000)
                except (ValueError, Weak):
                    # A name of an earlier input may mean something else here.
                    ends["refused"] = ends.get("refused", 0) + 1
                    continue
                ends[end[0]] = ends.get(end[0], 0) + 1
                self.assertEqual(talk.session.weak_names() != [], bool(free_variables(talk.session.context()[0])))
                entries = talk.session.context()[0]
                self.assertEqual(talk.session.lines(), report(entries[len(BASIS[0]):], entries))
        self.assertGreater(min(ends["value"], ends["raised"]), 5, ends)

    def test_weak_is_never_raised(self):
        talk = Talk(self)
        for text in ("val r = ref Nil", "val x = raise Match", "module M = struct val r = ref Nil end"):
            with self.assertRaises(Weak):
                check_program(read_program(text))
            talk.enter(text)

    def test_the_text_is_cut_at_the_hundredth_part(self):
        talk = Talk(self)
        talk.enter("rec count = fn 0 => Nil | n => n :: count (n - 1) exception E of int list")
        for text, front in (("val l = count 200", "{val l = Cons (200, "), ("val l : int = raise E (count 200)", "E (Cons (200, ")):
            end = talk.enter(text, 100000)[1]
            self.assertTrue(end[1].startswith(front) and ", ..)" in end[1], end)
            # The record or the packet, 33 constructors with their pairs and integers; then the limit is reached.
            self.assertEqual((end[1].count("Cons"), end[1].count("..")), (33, 1))

    def test_sessions_do_not_share_anything(self):
        first, second = Session(), Session()
        first.enter(read_program("val x = print 1 val r = ref 1"), 100)
        self.assertEqual((second.context(), second.output(), second.lines()), (BASIS, (), []))
