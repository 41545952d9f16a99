"""Splitting a text into tokens: 1.6."""

import unittest

from shapewright.errors import BadText
from shapewright.tokens import split_tokens

SYMBOLS = "( ) , ; | = => -> : :> . _ * + - @ < <= > >= <> := :: ~ !".split()
WORDS = (
    "alias all and andalso as case div else end exception fn functor handle if in include let mod module of "
    "open orelse raise rec shape sig signature struct then val variant where"
).split()


def pairs(text):
    return [(kind, value) for kind, value, _ in split_tokens(text)]


class Tokens(unittest.TestCase):
    def bad(self, text, at):
        with self.assertRaises(BadText) as caught:
            split_tokens(text)
        self.assertEqual(caught.exception.at, at, text)

    def test_no_tokens(self):
        for text in ("", " ", "\n", " \n \n\n", "(**)", "(* a *) \n(* b *)"):
            self.assertEqual(split_tokens(text), [])

    def test_each_kind(self):
        text = "val x1 = S.C 'abc 12 ~7 -> _\nend"
        self.assertEqual(split_tokens(text), [
            ("word", "val", 0), ("small", "x1", 4), ("symbol", "=", 7), ("capital", "S", 9), ("symbol", ".", 10),
            ("capital", "C", 11), ("tick", "abc", 13), ("number", 12, 18), ("number", -7, 21), ("symbol", "->", 24),
            ("symbol", "_", 27), ("word", "end", 29),
        ])

    def test_symbols(self):
        for symbol in SYMBOLS:
            self.assertEqual(split_tokens(f" {symbol} "), [("symbol", symbol, 1)])
        self.assertEqual(pairs(" ".join(SYMBOLS)), [("symbol", symbol) for symbol in SYMBOLS])

    def test_words(self):
        for word in WORDS:
            self.assertEqual(split_tokens(word), [("word", word, 0)])
            self.assertEqual(split_tokens(word + "_"), [("small", word + "_", 0)])
            self.assertEqual(split_tokens(word.capitalize()), [("capital", word.capitalize(), 0)])

    def test_the_longest_token_is_taken(self):
        for text, values in (
            ("=>", ["=>"]), ("= >", ["=", ">"]), ("==>", ["=", "=>"]), ("=>=", ["=>", "="]), ("::=", ["::", "="]),
            (":::", ["::", ":"]), (":=>", [":=", ">"]), (":>=", [":>", "="]), ("<=>", ["<=", ">"]), ("<>=", ["<>", "="]),
            ("<<", ["<", "<"]), ("-->", ["-", "->"]), ("->>", ["->", ">"]), ("*)", ["*", ")"]), ("x:>y", ["x", ":>", "y"]),
            ("a-1", ["a", "-", 1]), ("a~1", ["a", -1]), ("~~5", ["~", -5]), ("~ 5", ["~", 5]), ("5~6", [5, -6]),
            ("!~x", ["!", "~", "x"]), ("fnx", ["fnx"]), ("andalsox", ["andalsox"]), ("andalso", ["andalso"]),
            ("x'a", ["x", "a"]), ("12'a", [12, "a"]), ("S.x.y", ["S", ".", "x", ".", "y"]), ("()", ["(", ")"]),
            ("a1b2", ["a1b2"]), ("x_", ["x_"]), ("1.2", [1, ".", 2]), ("|=>", ["|", "=>"]), (";;", [";", ";"]),
        ):
            self.assertEqual([value for _, value in pairs(text)], values, text)

    def test_underscores(self):
        self.assertEqual(pairs("_"), [("symbol", "_")])
        self.assertEqual(pairs("__"), [("symbol", "_"), ("symbol", "_")])
        self.assertEqual(split_tokens("_ab"), [("symbol", "_", 0), ("small", "ab", 1)])
        self.assertEqual(split_tokens("_12"), [("symbol", "_", 0), ("number", 12, 1)])
        self.assertEqual(split_tokens("_Fn"), [("symbol", "_", 0), ("capital", "Fn", 1)])
        self.assertEqual(split_tokens("_fn"), [("symbol", "_", 0), ("word", "fn", 1)])
        self.bad("_1a", 1)
        self.bad("_01", 1)

    def test_runs_of_16_and_17(self):
        for first in "aA":
            self.assertEqual(len(split_tokens(first + "b" * 15)), 1)
            self.bad(first + "b" * 16, 0)
            self.bad("  " + first + "b" * 16 + " 0x", 2)
        self.assertEqual([value for _, value in pairs("_" + "b" * 15)], ["_", "b" * 15])
        self.bad("_" + "b" * 16, 0)
        self.assertEqual(len(split_tokens("_" * 16)), 16)
        self.bad("_" * 17, 0)
        self.bad("x _" + "1" * 16, 2)
        self.bad("x~" + "_" * 17, 2)

    def test_numbers(self):
        for text, value in (
            ("0", 0), ("1", 1), ("10", 10), ("100000", 100000), ("2147483647", 2147483647), ("~1", -1), ("~10", -10),
            ("~2147483648", -2147483648), ("~2147483647", -2147483647),
        ):
            self.assertEqual(split_tokens(text), [("number", value, 0)])
        for text in (
            "00", "01", "007", "~0", "~00", "~01", "2147483648", "~2147483649", "9" * 16, "9" * 17, "~" + "9" * 17,
            "9" * 5000, "1a", "1_", "12Z", "0x", "0_", "~1a", "~5_", "1" * 16 + "a", "12fn", "~12fn",
        ):
            self.bad(text, 0)
            self.bad(f"x {text}", 2)
        self.bad("~~0", 1)
        self.bad("-01", 1)
        self.assertEqual(split_tokens("~ 0"), [("symbol", "~", 0), ("number", 0, 2)])

    def test_ticks(self):
        self.assertEqual(split_tokens("'a"), [("tick", "a", 0)])
        self.assertEqual(split_tokens("'a'b"), [("tick", "a", 0), ("tick", "b", 2)])
        self.assertEqual(split_tokens("'" + "a" * 16), [("tick", "a" * 16, 0)])
        self.assertEqual(split_tokens("'fnx 'a_1"), [("tick", "fnx", 0), ("tick", "a_1", 5)])
        for text in ("'", "' a", "'A", "'Ab", "'1", "'_", "'_a", "'fn", "'val", "'div", "''a", "'+", "'" + "a" * 17, "'\na"):
            self.bad(text, 0)
            self.bad(f"(x {text}", 3)
        self.bad("'a'", 2)

    def test_characters_that_begin_no_token(self):
        for character in "#$&?[]^`{}\"/\\%\t\r\0\u00e9\u0661":
            self.bad(character, 0)
            self.bad(f"ab {character}", 3)
            self.bad(f"ab{character}c", 2)

    def test_comments(self):
        self.assertEqual(split_tokens("a(* b *)c"), [("small", "a", 0), ("small", "c", 8)])
        self.assertEqual(split_tokens("a(*(* b *)*)c"), [("small", "a", 0), ("small", "c", 12)])
        self.assertEqual(split_tokens("(* # ' 01 % \t\n {}\" *) 1"), [("number", 1, 22)])
        self.assertEqual(split_tokens("(***) 1"), [("number", 1, 6)])
        self.assertEqual(split_tokens("(* (* *) (* (* *) *) *)x"), [("small", "x", 23)])
        self.assertEqual(pairs("( *)"), [("symbol", "("), ("symbol", "*"), ("symbol", ")")])
        self.assertEqual(pairs("( * )"), [("symbol", "("), ("symbol", "*"), ("symbol", ")")])
        deep = "(*" * 2000 + "*)" * 2000
        self.assertEqual(split_tokens(deep + "x"), [("small", "x", 8000)])

    def test_comments_without_an_end(self):
        self.bad("(*", 0)
        self.bad("x (* y", 2)
        self.bad("x (* (* y *)", 2)
        self.bad("x (* a *) (* (* (*", 10)
        self.bad("(*)", 0)
        self.bad("(*(*)*)", 0)
        self.bad("(* *", 0)
        self.bad("(* # 01", 0)

    def test_the_first_error_is_reported(self):
        self.bad("a # 01 'B (*", 2)
        self.bad("a 01 # (*", 2)
        self.bad("a (* # *) 'B #", 10)
        self.bad("x" * 17 + "#", 0)
        self.bad("ok ~0 " + "x" * 17, 3)
        self.bad("(* (* 1a *) #", 0)
