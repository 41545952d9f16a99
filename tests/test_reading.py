"""The order of reading, its bounds and its errors: 1.9."""

import random
import unittest

from grammar import first_wrong
from samples import Maker
from shapewright import printer, reader
from shapewright.cursor import SIGNS
from shapewright.errors import BadText, NotWellFormed
from shapewright.reader import read_expression, read_pattern, read_program, read_shape
from shapewright.tokens import split_tokens


def outcome(read, text):
    """The place of the error, the words "not well formed", or None."""
    try:
        read(text)
    except BadText as error:
        return error.at
    except NotWellFormed:
        return "not well formed"
    return None


class Steps(unittest.TestCase):
    def same(self, rows):
        for read, text, expected in rows:
            self.assertEqual(outcome(read, text), expected, text[:80])

    def test_tokens_come_before_nesting(self):
        self.same([
            (read_expression, "(" * 31 + " #", 32), (read_expression, "raise " * 41 + "01", 246),
            (read_expression, "(" * 31, "not well formed"),
        ])

    def test_nesting_comes_before_the_grammar(self):
        self.same([
            (read_expression, ") " + "(" * 31, "not well formed"), (read_expression, "val " + "raise " * 41, "not well formed"),
            (read_expression, ") " + "(" * 30, 0), (read_shape, "( " * 31, "not well formed"), (read_pattern, "| x " + "as " * 41, "not well formed"),
            (read_program, "3 " + "struct " * 31, "not well formed"), (read_program, "3 " + "struct " * 30, 0),
        ])

    def test_the_grammar_comes_before_the_bounds_of_trees(self):
        deep = "raise " * 20
        self.same([
            (read_expression, deep + "x )", 122), (read_expression, deep + "x", "not well formed"), (read_expression, deep, len(deep)),
            (read_program, "val x = 1 " * 13, "not well formed"), (read_program, "val x = 1 " * 13 + "end", 130),
            (read_program, "val x = 1 " * 12, None),
        ])

    def test_trees_that_are_not_well_formed(self):
        wrong = "not well formed"
        self.same([
            (read_pattern, "(x, x)", wrong), (read_pattern, "(x, y)", None), (read_expression, "fn x :: x => 1", wrong),
            (read_shape, "(a, b, c, d) t", None), (read_shape, "(a, b, c, d, e) t", wrong), (read_shape, "a * b * c * d * e * f", None),
            (read_shape, "a * b * c * d * e * f * g", wrong), (read_shape, "A.B.C.D.E.t", None), (read_shape, "A.B.C.D.E.F.t", wrong),
            (read_expression, "(1, 2, 3, 4, 5, 6)", None), (read_expression, "(1, 2, 3, 4, 5, 6, 7)", wrong),
            (read_expression, "A.B.C.D.E.F", None), (read_expression, "A.B.C.D.E.F.G", wrong), (read_expression, "A.B.C.D.E.F.( + )", wrong),
            (read_expression, "fn " + " | ".join(["_ => 1"] * 8), None), (read_expression, "fn " + " | ".join(["_ => 1"] * 9), wrong),
            (read_expression, "let " + "val _ = 1 " * 12 + "in 1 end", None), (read_expression, "let " + "val _ = 1 " * 13 + "in 1 end", wrong),
            (read_program, "alias ('a, 'b, 'c, 'd) t = 'a", None), (read_program, "alias ('a, 'b, 'c, 'd, 'e) t = 'a", wrong),
            (read_program, "rec f : all 'a 'b 'c 'd . 'a = fn x => x", None), (read_program, "rec f : all 'a 'b 'c 'd 'e . 'a = fn x => x", wrong),
            (read_program, "variant t = " + " | ".join(["C"] * 12), None), (read_program, "variant t = " + " | ".join(["C"] * 13), wrong),
            (read_program, "variant " + " and ".join(["t = C"] * 4), None), (read_program, "variant " + " and ".join(["t = C"] * 5), wrong),
            (read_program, "rec " + " and ".join(["f = fn x => 1"] * 6), None), (read_program, "rec " + " and ".join(["f = fn x => 1"] * 7), wrong),
            (read_program, "module X = struct " + "open M " * 12 + "end", None), (read_program, "module X = struct " + "open M " * 13 + "end", wrong),
            (read_program, "signature G = sig " + "shape t " * 12 + "end", None), (read_program, "signature G = sig " + "shape t " * 13 + "end", wrong),
        ])

    def test_depth_14_and_400_nodes(self):
        wrong = "not well formed"
        self.same([
            (read_expression, "raise " * 13 + "x", None), (read_expression, "raise " * 14 + "x", wrong),
            (read_program, "val x = " + "raise " * 12 + "x", None), (read_program, "val x = " + "raise " * 13 + "x", wrong),
            (read_shape, "t " * 14, None), (read_shape, "t " * 15, wrong), (read_expression, "1" + " + 1" * 6, None),
            (read_expression, "1" + " + 1" * 7, wrong), (read_expression, "f" + " x" * 13, None), (read_expression, "f" + " x" * 14, wrong),
        ])
        row = "(1, 1, 1, 1, 1, 1)"  # 7 nodes
        block = "(" + ", ".join([row] * 6) + ")"  # 43 nodes
        big = "(" + ", ".join([block] * 6) + ")"  # 259 nodes
        # 1 + 259 + 3 * 43 + 7 + 3 = 399 nodes.
        body = f"{big}, {block}, {block}, {block}, {row}"
        self.same([
            (read_expression, f"({body}, (1, 1))", None), (read_expression, f"({body}, (1, 1, 1))", None),
            (read_expression, f"({body}, (1, 1, 1, 1))", wrong), (read_program, f"val _ = ({body})", None),
            (read_program, f"val _ = ({body}) open M", None), (read_program, f"val _ = ({body}) open M open M", None),
            (read_program, f"val _ = ({body}) open M open M open M", wrong),
        ])


class Nesting(unittest.TestCase):
    """Each text is wrong by its grammar, unless NotWellFormed is raised before."""

    def passes(self, text):
        self.assertIsInstance(outcome(read_program, "3 " + text), int, text)

    def refused(self, text):
        self.assertEqual(outcome(read_program, "3 " + text), "not well formed", text)

    def test_30_and_31_open_levels(self):
        for opening in ("( ", "let ", "struct ", "sig "):
            self.passes(opening * 30)
            self.refused(opening * 31)
            for closing in (") ", "end "):
                self.passes((opening * 30 + closing * 30) * 3)
                self.passes(opening * 30 + closing + opening)
                self.refused(opening * 30 + closing + opening * 2)
        self.refused("( let struct sig " * 7 + "( let struct")
        self.passes("( let struct sig " * 7 + "( let")
        self.passes(") end " * 50 + "( " * 30)
        self.refused(") end " * 50 + "( " * 31)

    def test_levels_are_open_only_where_they_are(self):
        self.refused("( " * 31 + ") " * 31)
        self.assertIsNone(outcome(read_expression, "(" * 30 + "x" + ")" * 30))
        self.assertEqual(outcome(read_expression, "(" * 31 + "x" + ")" * 31), "not well formed")
        self.assertIsNone(outcome(read_shape, "(" * 30 + "t" + ")" * 30))
        self.assertIsNone(outcome(read_pattern, "(" * 30 + "x" + ")" * 30))
        self.assertIsNone(outcome(read_program, "module X = " + "(" * 30 + "M" + ")" * 30))
        self.assertIsNone(outcome(read_program, "signature G = " + "(" * 30 + "H" + ")" * 30))

    def test_counts_of_40_and_41(self):
        for sign in ("fn", "case", "if", "raise", "handle", "as", "->", "::", "@", "andalso", "orelse"):
            self.passes(f"{sign} " * 40)
            self.refused(f"{sign} " * 41)
            self.passes(f"{sign} " * 20 + "( " + f"{sign} " * 20)
            self.refused(f"{sign} " * 20 + "( " + f"{sign} " * 21)

    def test_what_is_not_counted(self):
        for sign in ("x", "X", "1", "'a", "+", ":", ":>", ":=", "then", "else", "of", "all", "where", ".", "_", "!", "~", "*", "=", "div"):
            self.passes(f"{sign} " * 100)
            self.refused(f"raise {sign} " * 41)

    def test_counts_of_closed_levels_do_not_count(self):
        for opening, closing in (("(", ")"), ("let", "end"), ("struct", "end"), ("sig", "end"), ("(", "end"), ("let", ")")):
            self.passes(f"{opening} {'raise ' * 40} {closing} " * 3)
            self.passes(f"{'raise ' * 10} {opening} {'raise ' * 30} {closing} {'raise ' * 30}")
            self.refused(f"{'raise ' * 10} {opening} {'raise ' * 30} {closing} {'raise ' * 31}")

    def test_a_closing_sign_without_a_level_leaves_the_count(self):
        self.refused("raise " * 20 + ") end " + "raise " * 21)

    def test_what_sets_a_count_to_zero(self):
        clearing = (
            ", ; and in val rec alias exception open variant module functor signature shape include".split()
        )
        self.assertEqual(len(clearing), 15)
        for sign in clearing:
            self.passes(("raise " * 40 + f"{sign} ") * 3)
            self.refused("raise " * 40 + f"{sign} " + "raise " * 41)
            # What is outside of the level keeps its count.
            self.refused("raise ( " + "raise " * 39 + f"{sign} " + "raise " * 40)
            # The mark of the rules is cleared, too.
            self.passes("fn " * 30 + f"{sign} => " + "raise " * 40)
            self.passes("fn " * 30 + f"{sign} | " + "raise " * 40)
            self.refused("fn " * 30 + f"{sign} => " + "raise " * 41)
            self.refused("fn " * 30 + f"{sign} | " + "raise " * 41)

    def test_what_does_not_set_a_count_to_zero(self):
        for sign in ("then", "else", "of", "=", ":", "where", "all", "x", "+", ")", "end"):
            self.refused("raise " * 20 + f"{sign} " + "raise " * 21)

    def test_rules_set_a_count_back(self):
        for word in ("fn", "case", "handle"):
            for sign in ("=>", "|"):
                self.passes(f"{word} " + ("raise " * 39 + f"{sign} ") * 3)
                self.refused(f"{word} " + "raise " * 39 + f"{sign} " + "raise " * 40)
                self.passes("raise " * 10 + f"{word} " + "raise " * 29 + f"{sign} " + "raise " * 29)
                self.refused("raise " * 10 + f"{word} " + "raise " * 29 + f"{sign} " + "raise " * 30)
                # The last one of these words counts.
                self.refused(f"{word} " + "raise " * 10 + f"{word} raise {sign} " + "raise " * 29)
                self.passes(f"{word} " + "raise " * 10 + f"{word} raise {sign} " + "raise " * 28)

    def test_rules_without_such_a_word_set_a_count_to_zero(self):
        for sign in ("=>", "|"):
            self.passes(("raise " * 40 + f"{sign} ") * 3)
            self.passes("fn ( " + ("raise " * 39 + f"{sign} ") * 3)
            self.refused("fn ( " + "raise " * 39 + f"{sign} " + "raise " * 40)
            self.passes("fn ( fn fn ) raise raise " + f"{sign} " + "raise " * 39)

    def test_a_word_in_another_kind_of_token_is_not_counted(self):
        self.passes("Fn raisex 'raisex " * 60)
        self.passes("(* raise raise ( *) " * 60)


class Chains(unittest.TestCase):
    """Chains as long as the text allows are read without recursion; their trees are beyond the bounds."""

    def test_long_chains(self):
        count = 30000
        rows = [
            (read_expression, "f" + " x" * count), (read_expression, "1" + " + 1" * count), (read_expression, "1" + " := 1" * count),
            (read_expression, "1" + " = 1 * 2" * count), (read_expression, "x" + " : int" * count), (read_expression, "(x" + "; x" * count + ")"),
            (read_expression, "(x" + ", x" * count + ")"), (read_expression, "S" + ".S" * count), (read_expression, "fn x => 1" + " | y => 2" * count),
            (read_pattern, "x" + " : int" * count), (read_pattern, "C" + ".C" * count + " x"), (read_pattern, "(x" + ", _" * count + ")"),
            (read_shape, "int" + " list" * count), (read_shape, "int" + " * int" * count), (read_shape, "S." * count + "t"),
            (read_program, "val x = 1 " * count), (read_program, "module X = M" + " : G" * count), (read_program, "module X = M" + " :> G" * count),
            (read_program, "signature G = G" + " where t = int" * count), (read_program, "variant t = C" + " | C" * count),
            (read_program, "rec f = fn x => 1" + " and f = fn x => 1" * count), (read_program, "variant t = C" + " and t = C" * count),
            (read_expression, "let " + "val x = 1 " * count + "in 1 end"), (read_program, "module X = struct " + "val x = 1 " * count + "end"),
            (read_program, "signature G = sig " + "val x : t " * count + "end"),
        ]
        for read, text in rows:
            self.assertEqual(outcome(read, text), "not well formed", text[:30])
            self.assertIsInstance(outcome(read, text + " $"), int)

    def test_the_end_of_a_long_chain(self):
        text = "1" + " + 1" * 30000
        self.assertEqual(outcome(read_expression, text + " +"), len(text) + 2)
        self.assertEqual(outcome(read_expression, text + " )"), len(text) + 1)

    def test_the_greatest_nesting_is_read(self):
        body = "x"
        for _ in range(30):
            body = f"let rec f = fn x => {body} in x end"
        self.assertEqual(outcome(read_expression, body), "not well formed")
        self.assertEqual(outcome(read_expression, "raise " * 10 + body), "not well formed")
        self.assertEqual(outcome(read_expression, "fn x => " * 40 + "(" * 30 + "x" + ")" * 30), "not well formed")
        self.assertEqual(outcome(read_program, "module X = struct " * 30 + "end " * 30), "not well formed")
        self.assertEqual(outcome(read_expression, "if a then b else " * 40 + "(" * 30 + "x" + ")" * 30), "not well formed")
        self.assertEqual(outcome(read_expression, "x :: " * 40 + "(" * 30 + "x" + ")" * 30), "not well formed")


class Oracle(unittest.TestCase):
    """The reader against a recognizer of the grammar as the document writes it."""

    STARTS = {"program": "program", "expression": "exp", "pattern": "pat", "shape": "shape"}
    PIECES = (
        "( ) , ; | = => -> : :> . _ * + - @ < <= > >= <> := :: ~ ! alias all and andalso as case div else end exception fn "
        "functor handle if in include let mod module of open orelse raise rec shape sig signature struct then val variant "
        "where x C 'a 12 ~3"
    ).split()

    def pieces(self, text):
        found = split_tokens(text)
        ends = [at for _, _, at in found[1:]] + [len(text)]
        return [text[at:end].strip() for (_, _, at), end in zip(found, ends)]

    def changed(self, pieces, source):
        made = list(pieces)
        for _ in range(source.choice((0, 1, 1, 1, 2, 3))):
            at = source.randrange(len(made) + 1)
            way = source.choice("dirt")
            if way == "t":
                made = made[:at]
            elif way == "i" or not made:
                made.insert(at, source.choice(self.PIECES))
            elif way == "d":
                del made[min(at, len(made) - 1)]
            else:
                made[min(at, len(made) - 1)] = source.choice(self.PIECES)
        return "  ".join(made)

    def expected(self, kind, text):
        found = split_tokens(text)
        wrong = first_wrong(self.STARTS[kind], [SIGNS.get(k, value) for k, value, _ in found])
        if wrong is None:
            return None
        return found[wrong][2] if wrong < len(found) else len(text)

    def test_the_first_wrong_token(self):
        seen = {"right": 0, "wrong": 0}
        for seed in range(160):
            source = random.Random(seed)
            maker = Maker(seed, 30, 6)
            for kind in self.STARTS:
                pieces = self.pieces(getattr(printer, f"print_{kind}")(maker.tree(kind)))
                if len(pieces) > 70:
                    continue
                for _ in range(3):
                    text = self.changed(pieces, source)
                    got = outcome(getattr(reader, f"read_{kind}"), text)
                    expected = self.expected(kind, text)
                    if got == "not well formed":
                        continue
                    self.assertEqual(got, expected, (kind, text))
                    seen["right" if expected is None else "wrong"] += 1
        self.assertGreater(seen["right"], 300)
        self.assertGreater(seen["wrong"], 600)
