"""The console: each form of line, lines that are nearly right, what they return, errors."""

import unittest

from bitcounts.console import Console
from bitcounts.desks import Desk
from bitcounts.errors import (
    InvalidCommand, InvalidText, NothingToUndo, Parted, Refused, TooMany, TooManyClasses, TooManyNames, UnknownName,
)
from bitcounts.texts import read_formula
from bitcounts.words import formula, var
from tests.support import Other, raised

M, N = var("m"), var("n")


def shown(console):
    desk = console.desk
    return desk.names, desk.claims, desk.history, [desk[name] for name in desk.names]


def filled():
    console = Console()
    for line in ("s := (m + n)", "o := (m | n)", "a := (m & n)", "five := 5", "four := 4", "claim 1 s + -1 o + -1 a"):
        console.say(line)
    return console


NEARLY = """:= m|s :=|s:= m|s :=m|s  := m| s := m|S := m|s1 := m|abcdefghi := m|s = m|s := |m|(m + n)|drop|drop |drop  s
drop S|drop s s| drop s|drop s |Drop s|drop s1|undo |undo 2| undo|Undo|undo undo|claim|claim |claim s|claim 1s|claim 1
claim 1 s +|claim 1 s + |claim 1 s+1 o|claim 1 s +1 o|claim 1 s+ 1 o|claim 1  s|claim  1 s|claim 1 s |claim +1 s
claim 1 s - 1 o|claim 01 s|claim -0 s|claim -01 s|claim 00 s|claim - 1 s|claim --1 s|claim 1.0 s|claim x s|claim 1 S
claim 1 s + 1|claim s 1|claim 1 s o|claim 1 s1|claim 1 s + + 1 s|claim 1 s  + 1 o|claim 1 s, 1 o|s and|and s|and
s and  o|s  and o|s and o | s and o|S and o|s and O|s and o and a|s or o|s and o1|sando|s andno|where|where |where m
where  (m < n)|Where (m < n)| where (m < n)|where(m < n)|where not|where s1 and o|1 and 2|s := o := |((|''|ok""".replace(
    "\n", "|").split("|")


class Lines(unittest.TestCase):
    def test_keep(self):
        console = Console()
        self.assertIs(type(console.desk), Desk)
        for line, rank, name, text in (
            ("s := (m + n)", 2, "s", "(m + n)"), ("x := 0", 0, "x", "0"), ("x := 7", 1, "x", "7"),
            ("f := (ones(m) * (n - 1))", 4, "f", "(ones(m) * (n - 1))"), ("undo := m", 2, "undo", "m"),
            ("drop := m", 2, "drop", "m"), ("where := (m * m)", 3, "where", "(m * m)"), ("and := n", 2, "and", "n"),
            ("claim := (- 3)", 1, "claim", "(- 3)"), ("abcdefgh := (m & n)", None, "abcdefgh", "(m & n)"),
        ):
            said = console.say(line)
            made = read_formula(text)
            self.assertEqual(said, f"rank {made.rank}")
            self.assertIn(rank, (None, made.rank))
            self.assertEqual(console.desk[name], made)
            self.assertEqual(console.desk.history[-1], ("keep", name, made))
        self.assertEqual(len(console.desk.history), 10)

    def test_deeds(self):
        console = filled()
        self.assertEqual(console.desk.claims, (((1, "s"), (-1, "o"), (-1, "a")),))
        self.assertEqual(console.say("undo"), "ok")
        self.assertEqual(console.desk.claims, ())
        self.assertEqual(console.say("drop five"), "ok")
        self.assertEqual(console.desk.names, ("a", "four", "o", "s"))
        self.assertEqual(console.say("undo"), "ok")
        self.assertEqual(console.desk["five"], formula(5))
        self.assertEqual(console.say(line="claim 0 s"), "ok")
        great = "9" * 30
        self.assertEqual(console.say(f"claim {great} s + -{great} s + 0 a + 4 five + -5 four"), "ok")
        self.assertEqual(console.desk.claims[-1], ((int(great), "s"), (-int(great), "s"), (0, "a"), (4, "five"),
                                                   (-5, "four")))
        six = " + ".join(["1 s", "-1 s"] * 3)
        self.assertEqual(console.say(f"claim {six}"), "ok")
        self.assertEqual(raised(self, InvalidCommand, console.say, f"claim {six} + 0 s").command,
                         f"claim {six} + 0 s")
        long = "claim 1" + "0" * 30 + " s"
        self.assertEqual(raised(self, InvalidCommand, console.say, long).command, long)

    def test_names_that_are_words_of_lines(self):
        console = Console()
        for name in ("drop", "undo", "claim", "where", "and"):
            self.assertEqual(console.say(f"{name} := m"), "rank 2")
            self.assertEqual(console.say(f"{name} and {name}"), "same")
            self.assertEqual(console.say(f"claim 0 {name}"), "ok")
            self.assertEqual(console.say("undo"), "ok")
        self.assertEqual(console.say("drop and undo"), "same")
        self.assertEqual(console.say("and and and"), "same")
        self.assertEqual(console.say("where and claim"), "same")
        self.assertEqual(console.say("drop and"), "ok")
        self.assertEqual(console.say("drop drop"), "ok")
        self.assertEqual(console.desk.names, ("claim", "undo", "where"))

    def test_and(self):
        console = filled()
        for line, said in (("s and o", "apart at m=1, n=1"), ("s and s", "same"), ("five and four", "apart"),
                           ("five and five", "same"), ("five and s", "apart at m=0, n=0"),
                           ("a and five", "apart at m=0, n=0"), ("o and a", "apart at m=0, n=1")):
            self.assertEqual(console.say(line), said)
        console.say("b := ((m ^ n) + (2 * (m & n)))")
        self.assertEqual(console.say("b and s"), "same")
        console.say("z := (zebra & 1023)")
        console.say("y := zebra")
        self.assertEqual(console.say("y and z"), "apart at zebra=1024")

    def test_where(self):
        console = Console()
        for line, said in (
            ("where (m < n)", "at m=0, n=1"), ("where (m < 0)", "never"), ("where (0 <= m)", "always"),
            ("where ((m & n) == 3)", "at m=3, n=3"), ("where (not (m < 5))", "at m=5"), ("where (m == m)", "always"),
            ("where ((m < n) or (not (m < n)))", "always"), ("where ((m < n) and (n < m))", "never"),
            ("where (m == 1000000)", "at m=1000000"), ("where (m < (n + 1))", "at m=0, n=0"),
            ("where (1 < 2)", "always"), ("where (2 < 1)", "never"), ("where (not < and)", "at and=1, not=0"),
        ):
            self.assertEqual(console.say(line), said)
        self.assertEqual(console.desk.history, ())

    def test_the_same_at_a_desk(self):
        console, desk = filled(), Desk()
        desk.do_all(("keep", "s", M + N), ("keep", "o", M | N), ("keep", "a", M & N), ("keep", "five", 5),
                    ("keep", "four", 4), ("claim", ((1, "s"), (-1, "o"), (-1, "a"))))
        self.assertEqual((console.desk.names, console.desk.claims), (desk.names, desk.claims))
        self.assertEqual([console.desk[name] for name in desk.names], [desk[name] for name in desk.names])
        self.assertEqual([deed[:2] for deed in console.desk.history], [deed[:2] for deed in desk.history])
        # What is done at the desk of the console is seen by its lines.
        console.desk["new"] = M
        console.desk.undo(times=1)
        raised(self, UnknownName, console.say, "new and s")
        self.assertEqual(Console().desk.names, ())


class Errors(unittest.TestCase):
    def refuse(self, console, kind, line):
        before = shown(console)
        error = raised(self, kind, console.say, line)
        self.assertEqual(shown(console), before)
        return error

    def test_nearly_right(self):
        console = filled()
        for line in NEARLY:
            if line in ("s := ", "s := o := "):
                self.assertEqual(self.refuse(console, InvalidText, line).text, line[5:])
                continue
            with self.subTest(line):
                self.assertIs(self.refuse(console, InvalidCommand, line).command, line)

    def test_other_values(self):
        console = filled()
        for line in (None, True, False, 0, (), ("undo",), ["undo"], b"undo", {"undo": 1}, Other(), Other, M, "", "\n",
                     "undo\n", "s and o\n", "\nundo", "drop s\n", "claim 1 s\n", " ", "x" * 20000, "claim " + "1" * 15000):
            self.assertIs(self.refuse(console, InvalidCommand, line).command, line)

    def test_texts(self):
        console = filled()
        for text in ("", " m", "m ", "m\n", "(m+n)", "(m < n)", "M", "1000001", "s := m", "ones(m < n)", "-5",
                     "(- " * 41 + "m" + ")" * 41, "x" * 12000):
            self.assertEqual(self.refuse(console, InvalidText, f"s := {text}").text, text)
        for text in ("(m < n", "(m + n)", "((m < n))", "(m < n) ", "()", "(", "(m < n) and (n < m)", "(m < n)\n"):
            self.assertEqual(self.refuse(console, InvalidText, f"where {text}").text, text)

    def test_what_is_done_raises(self):
        console = filled()
        self.assertEqual(self.refuse(console, UnknownName, "x and y").name, "x")
        self.assertEqual(self.refuse(console, UnknownName, "s and y").name, "y")
        self.assertEqual(self.refuse(console, UnknownName, "drop x").name, "x")
        self.assertEqual(self.refuse(console, UnknownName, "claim 1 s + 1 y + 1 x").name, "y")
        self.assertEqual(self.refuse(console, Refused, "drop o").index, 0)
        error = self.refuse(console, Refused, "s := (m ^ n)")
        self.assertEqual((error.index, type(error.__cause__), error.__cause__.pairs), (0, Parted, (("m", 1), ("n", 1))))
        error = self.refuse(console, Refused, "claim 1 five")
        self.assertEqual((error.index, error.__cause__.pairs), (1, ()))
        self.refuse(console, TooMany, "x := (m & 65536)")
        self.refuse(console, TooManyNames, "x := ((m + n) + (k + p))")
        self.refuse(console, TooManyNames, "s := (k + p)")
        self.refuse(console, TooManyClasses, "where (m < (16 * (16 * (16 * n))))")
        console.say("x := (k + p)")
        self.refuse(console, TooManyNames, "x and s")
        self.refuse(console, TooManyNames, "claim 0 x + 0 s")
        empty = Console()
        self.refuse(empty, NothingToUndo, "undo")

    def test_the_text_comes_before_the_deed(self):
        console = filled()
        self.refuse(console, InvalidText, "s := (m ^ n")
        self.refuse(console, TooMany, "s := (m & 65536)")


if __name__ == "__main__":
    unittest.main()
