"""Desks: deeds by each way, claims, errors in their order, all or none, undo."""

import unittest

from bitcounts.counting import ones
from bitcounts.desks import Desk
from bitcounts.errors import (
    Busy, InvalidDeeds, InvalidName, InvalidNumber, InvalidValues, NotAFormula, NothingToUndo, Parted, Refused, TooMany,
    TooManyNames, UnknownName,
)
from bitcounts.formulas import Formula
from bitcounts.words import formula, var, word
from tests.support import Other, raised

M, N, K, P = var("m"), var("n"), var("k"), var("p")
WRONG_NAMES = [None, "", "M", "m1", "abcdefghi", 5, True, ("m",), ["m"], {"m": 1}, b"m", Other(), Other, M]
OTHERS = [None, "m", "", (), (1,), [1], {"m": 1}, b"m", True, False, M < N, Other(), Other]
GREAT = M & 2 ** 14


def shown(desk):
    return desk.names, desk.claims, desk.history, [desk[name] for name in desk.names], desk.busy


def filled():
    desk = Desk()
    desk["sum"] = M + N
    desk["both"] = M & N
    desk["either"] = M | N
    desk.claim(((1, "sum"), (-1, "both"), (-1, "either")))
    return desk


class Stop(Exception):
    pass


def stop(desk):
    raise Stop()


class Deeds(unittest.TestCase):
    def unchanged(self, desk, kind, action, *values, **named):
        before = shown(desk)
        error = raised(self, kind, action, *values, **named)
        self.assertEqual(shown(desk), before)
        return error

    def test_a_new_desk(self):
        desk = Desk()
        self.assertEqual((desk.names, desk.claims, desk.busy, desk.history), ((), (), False, ()))

    def test_keep(self):
        desk = Desk()
        for value in (M + N, 5, 10 ** 120, formula(M), word(3), -10 ** 7):
            desk["a"] = value
            self.assertIs(type(desk["a"]), Formula)
            self.assertEqual(desk["a"], formula(value))
        kept = ones(M)
        desk["b"] = kept
        self.assertEqual(desk.names, ("a", "b"))
        self.assertEqual(desk["b"], kept)
        self.assertEqual(desk.history[-1], ("keep", "b", kept))
        self.assertEqual(desk.history[0][2], M + N)
        self.assertEqual(len(desk.history), 7)

    def test_getting_and_in(self):
        desk = filled()
        for name in WRONG_NAMES:
            self.assertIs(self.unchanged(desk, InvalidName, desk.__getitem__, name).name, name)
            self.assertIs(name in desk, False)
        self.assertEqual(self.unchanged(desk, UnknownName, desk.__getitem__, "m").name, "m")
        self.assertEqual(["sum" in desk, "m" in desk, "both" in desk, "Sum" in desk], [True, False, True, False])
        for value in (0, 1.5, [["a"]], ("sum",), {"sum"}):
            self.assertIs(value in desk, False)
        with self.assertRaises(TypeError):
            list(desk)

    def test_names_are_ascending(self):
        desk = Desk()
        for name in ("z", "b", "aa", "a", "zz", "abcdefgh"):
            desk[name] = M
        self.assertEqual(desk.names, ("a", "aa", "abcdefgh", "b", "z", "zz"))

    def test_errors_of_keep(self):
        desk = filled()
        for name in WRONG_NAMES:
            self.assertIs(self.unchanged(desk, InvalidName, desk.__setitem__, name, None).name, name)
            self.assertIs(self.unchanged(desk, InvalidName, desk.do_all, ("keep", name, None)).name, name)
        for value in OTHERS:
            self.assertIs(self.unchanged(desk, NotAFormula, desk.__setitem__, "a", value).value, value)
            self.assertIs(self.unchanged(desk, NotAFormula, desk.do_all, ("keep", "sum", value)).value, value)

    def test_drop(self):
        desk = filled()
        desk["more"] = M
        self.assertIsNone(desk.drop("more"))
        self.assertEqual((desk.names, desk.history[-1]), (("both", "either", "sum"), ("drop", "more")))
        for name in WRONG_NAMES:
            self.assertIs(self.unchanged(desk, InvalidName, desk.drop, name).name, name)
        self.assertEqual(self.unchanged(desk, UnknownName, desk.drop, "more").name, "more")
        self.assertEqual(self.unchanged(desk, Refused, desk.drop, "sum").index, 0)
        desk["one"] = 0
        desk.claim(((1, "one"),))
        desk.claim(((2, "one"), (0, "sum")))
        error = self.unchanged(desk, Refused, desk.drop, "one")
        self.assertEqual((error.index, error.__cause__), (1, None))
        desk.release(0)
        self.assertEqual(self.unchanged(desk, Refused, desk.drop, "sum").index, 1)
        self.assertIsNone(desk.drop("both"))
        self.assertIsNone(desk.drop(name="either"))

    def test_claim(self):
        desk = filled()
        rows = [((1, "sum"), (-1, "sum")), ((0, "both"),), ((0, "both"), (0, "sum"), (2, "sum"), (-2, "sum")),
                tuple((factor, "sum") for factor in (1, 2, 3, -1, -2, -3)), ((2, "sum"), (-2, "both"), (-2, "either")),
                ((10 ** 120, "sum"), (-10 ** 120, "both"), (-10 ** 120, "either"))]
        for row in rows:
            self.assertIsNone(desk.claim(row))
            self.assertIs(desk.claims[-1], row)
            self.assertEqual(desk.history[-1], ("claim", row))
        self.assertEqual(len(desk.claims), 7)
        self.assertIsNone(desk.claim(row=rows[0]))
        self.assertEqual(desk.claims[0], ((1, "sum"), (-1, "both"), (-1, "either")))

    def test_claims_that_fail(self):
        desk = filled()
        for row, least in (
            (((1, "sum"), (-1, "either")), (("m", 1), ("n", 1))), (((1, "sum"),), (("m", 0), ("n", 1))),
            (((1, "both"), (1, "both")), (("m", 1), ("n", 1))), (((3, "sum"), (-2, "sum")), (("m", 0), ("n", 1))),
        ):
            error = self.unchanged(desk, Refused, desk.claim, row)
            self.assertEqual(error.index, 1)
            self.assertIs(type(error.__cause__), Parted)
            self.assertEqual(error.__cause__.pairs, least)

    def test_the_names_of_all_formulas_of_a_claim(self):
        desk = filled()
        desk["third"] = K & 4
        desk["five"] = 5
        error = self.unchanged(desk, Refused, desk.claim, ((0, "sum"), (1, "third"), (0, "five")))
        self.assertEqual(error.__cause__.pairs, (("k", 4), ("m", 0), ("n", 0)))
        error = self.unchanged(desk, Refused, desk.claim, ((2, "five"), (0, "third")))
        self.assertEqual(error.__cause__.pairs, (("k", 0),))
        self.assertEqual(self.unchanged(desk, Refused, desk.claim, ((2, "five"),)).__cause__.pairs, ())

    def test_rows_that_are_not_right(self):
        desk = filled()
        for row in (None, [], (), "sum", 5, [(1, "sum")], ((1, "sum"),) * 7, {}, Other()):
            self.assertIsNone(self.unchanged(desk, InvalidValues, desk.claim, row).index)
        for bad in ((1,), (1, "sum", 2), [1, "sum"], (True, "sum"), ("1", "sum"), (1, "Sum"), (1, ""), (1, None),
                    ("sum", 1), (None, "sum"), (1, ["sum"]), (1, "abcdefghi"), "ab", 5, None, Other()):
            for at in range(4):
                row = ((1, "nothere"),) * at + (bad,) + (None,) * 2
                self.assertEqual(self.unchanged(desk, InvalidValues, desk.claim, row).index, at)
        row = ((1, "sum"), (1, "left"), (1, "away"))
        self.assertEqual(self.unchanged(desk, UnknownName, desk.claim, row).name, "left")

    def test_limits_of_claims(self):
        desk = Desk()
        for name, kept in (("a", M + N), ("b", K + P), ("g", GREAT), ("one", 1), ("zero", 0), ("h", N & 2 ** 14)):
            desk[name] = kept
        self.unchanged(desk, TooManyNames, desk.claim, ((1, "a"), (1, "b")))
        self.unchanged(desk, TooManyNames, desk.claim, ((0, "a"), (0, "b")) + ((1, "g"),) * 4)
        self.assertEqual(formula(GREAT).rank, 16)
        self.unchanged(desk, TooMany, desk.claim, ((0, "g"),) * 4 + ((0, "one"),))
        self.unchanged(desk, TooMany, desk.claim, ((1, "g"), (-1, "g"), (1, "h"), (-1, "h"), (1, "one"), (-1, "one")))
        desk.claim(((1, "g"), (-1, "g"), (1, "g"), (-1, "g"), (5, "zero"), (0, "zero")))
        desk.claim(((1, "g"), (-1, "g"), (1, "h"), (-1, "h"), (5, "zero")))
        error = self.unchanged(desk, Refused, desk.claim, ((1, "g"), (1, "g"), (-1, "h"), (-1, "h")))
        self.assertEqual((error.index, error.__cause__.pairs), (2, (("m", 0), ("n", 2 ** 14))))

    def test_keep_over_names_in_claims(self):
        desk = filled()
        desk["sum"] = (M ^ N) + 2 * (M & N)
        error = self.unchanged(desk, Refused, desk.__setitem__, "sum", M ^ N)
        self.assertEqual((error.index, error.__cause__.pairs), (0, (("m", 1), ("n", 1))))
        desk["free"] = M
        desk["other"] = M
        desk.claim(((1, "free"), (-1, "other")))
        desk.claim(((2, "other"), (-2, "free")))
        error = self.unchanged(desk, Refused, desk.__setitem__, "free", N)
        self.assertEqual((error.index, error.__cause__.pairs), (1, (("m", 0), ("n", 1))))
        self.unchanged(desk, TooManyNames, desk.__setitem__, "sum", K + P)
        error = self.unchanged(desk, Refused, desk.__setitem__, "both", M & N & K)
        self.assertEqual(error.__cause__.pairs, (("k", 0), ("m", 1), ("n", 1)))
        # Two factors 0 let any formula stay there, as long as the limits hold.
        desk["loose"] = N
        desk.claim(((0, "loose"),) * 5)
        desk["loose"] = M * N
        self.unchanged(desk, TooMany, desk.__setitem__, "loose", GREAT)
        desk.release(3)
        desk["loose"] = GREAT

    def test_the_first_claim_that_does_not_hold(self):
        desk = Desk()
        desk["a"] = M
        desk["b"] = M
        desk["c"] = formula(2 * M)
        desk["x"] = K
        desk.claim(((0, "x"), (0, "a")))
        desk.claim(((1, "a"), (-1, "b")))
        desk.claim(((2, "a"), (-1, "c")))
        self.assertEqual(self.unchanged(desk, Refused, desk.__setitem__, "a", N).index, 1)
        self.assertEqual(self.unchanged(desk, Refused, desk.__setitem__, "c", M).index, 2)
        # In the first claim there are too many names.
        self.unchanged(desk, TooManyNames, desk.__setitem__, "a", M + N + P)

    def test_release(self):
        desk = filled()
        desk.claim(((0, "sum"),))
        for index in (None, True, False, -1, 2, 10 ** 30, "0", (0,), [0], Other()):
            self.assertIs(self.unchanged(desk, InvalidNumber, desk.release, index).number, index)
        self.assertIsNone(desk.release(0))
        self.assertEqual((desk.claims, desk.history[-1]), ((((0, "sum"),),), ("release", 0)))
        desk["sum"] = M
        self.assertIsNone(desk.release(index=0))
        self.assertEqual(self.unchanged(desk, InvalidNumber, desk.release, 0).number, 0)

    def test_two_desks(self):
        one, other = filled(), Desk()
        other["sum"] = M
        one.release(0)
        self.assertEqual((one.names, other.names, other.claims), (("both", "either", "sum"), ("sum",), ()))
        self.assertEqual((one["sum"], other["sum"]), (formula(M + N), formula(M)))
        self.assertNotEqual(one, other)
        self.assertEqual(one, one)


class All(unittest.TestCase):
    def test_all(self):
        desk = Desk()
        deeds = (("keep", "a", M), ("keep", "b", M), ("claim", ((1, "a"), (-1, "b"))), ("release", 0), ("drop", "a"))
        self.assertEqual(desk.do_all(*deeds), 5)
        self.assertEqual((desk.names, desk.claims, desk.history), (("b",), (), deeds))
        self.assertEqual(desk.do_all(), 0)
        self.assertEqual(desk.do_all(watch=stop), 0)

    def test_deeds_that_are_none(self):
        desk = filled()
        before = shown(desk)
        for bad in (None, [], (), ("keep",), ("keep", "a"), ("keep", "a", M, M), ["drop", "a"], ("drop",), ("put", "a"),
                    ("drop", "a", "b"), ("claim",), ("release",), ("undo",), (5, 5), (["keep"], "a", M), "drop", "ab",
                    (None, "a"), ("Keep", "a", M), ("claim", (), ()), (True, 1), Other()):
            for at in range(3):
                deeds = (("keep", "a", M), ("drop", "nowhere"), ("keep", 5, None))[:at] + (bad, None)
                self.assertEqual(raised(self, InvalidDeeds, desk.do_all, *deeds, watch=stop).index, at)
                self.assertEqual(shown(desk), before)

    def test_a_deed_that_fails_at_each_place(self):
        good = [("keep", "a", M), ("keep", "b", K), ("claim", ((0, "a"),)), ("drop", "b")]
        for at in range(5):
            for bad, kind in ((("drop", "c"), UnknownName), (("keep", "a", None), NotAFormula), (("release", 9),
                              InvalidNumber), (("claim", ((1, "sum"),)), Refused), (("keep", "sum", 0), Refused)):
                desk, seen = filled(), []
                before = shown(desk)
                deeds = good[:at] + [bad] + good[at:]
                raised(self, kind, desk.do_all, *deeds, watch=lambda other: seen.append(other.names))
                self.assertEqual(shown(desk), before)
                self.assertEqual(len(seen), at)

    def test_watch(self):
        desk, seen = Desk(), []

        def look(other):
            self.assertIs(other, desk)
            seen.append((other.names, len(other.claims), len(other.history), other.busy))

        desk.do_all(("keep", "a", 0), ("claim", ((1, "a"),)), ("release", 0), ("drop", "a"), watch=look)
        self.assertEqual(seen, [(("a",), 0, 1, True), (("a",), 1, 2, True), (("a",), 0, 3, True), ((), 0, 4, True)])
        self.assertIs(desk.busy, False)
        self.assertEqual(desk.do_all(("keep", "a", M), watch=None), 1)

    def test_watch_that_raises(self):
        for last in (1, 2, 3):
            desk, seen = filled(), []
            before = shown(desk)

            def look(other):
                seen.append(1)
                if len(seen) == last:
                    raise Stop()

            with self.assertRaises(Stop):
                desk.do_all(("keep", "a", M), ("drop", "a"), ("release", 0), watch=look)
            self.assertEqual((shown(desk), len(seen)), (before, last))
            desk["a"] = M

    def test_busy(self):
        desk, done = filled(), []

        def look(other):
            for act, values, named in (
                (desk.__setitem__, (5, None), {}), (desk.drop, (None,), {}), (desk.claim, (None,), {}),
                (desk.release, (None,), {}), (desk.do_all, (None,), {}), (desk.do_all, (), {"watch": look}),
                (desk.undo, (), {"times": None}), (desk.undo, (), {}),
            ):
                raised(self, Busy, act, *values, **named)
                done.append(1)
            self.assertEqual(desk["a"], formula(M))
            self.assertIs("a" in desk, True)

        self.assertEqual(desk.do_all(("keep", "a", M), ("release", 0), watch=look), 2)
        self.assertEqual((len(done), desk.names, desk.claims), (16, ("a", "both", "either", "sum"), ()))

    def test_busy_comes_out(self):
        desk = filled()
        before = shown(desk)
        raised(self, Busy, desk.do_all, ("keep", "a", M), watch=lambda other: other.drop("a"))
        self.assertEqual(shown(desk), before)

    def test_another_desk_meanwhile(self):
        desk, other = Desk(), Desk()
        desk.do_all(("keep", "a", M), watch=lambda one: other.do_all(("keep", "b", N)))
        self.assertEqual((desk.names, other.names), (("a",), ("b",)))


class Undo(unittest.TestCase):
    def test_once_and_many_times(self):
        desk = Desk()
        states = [shown(desk)]
        for deed in (("keep", "a", M), ("keep", "b", M), ("claim", ((1, "a"), (-1, "b"))), ("keep", "c", 4),
                     ("drop", "c"), ("keep", "a", (M ^ N) + 2 * (M & N) - N), ("release", 0), ("keep", "a", N)):
            desk.do_all(deed)
            states.append(shown(desk))
        for times in range(1, 9):
            self.assertIsNone(desk.undo(times=times))
            self.assertEqual(shown(desk), states[8 - times])
            desk.do_all(*states[8][2][8 - times:])
            self.assertEqual(shown(desk), states[8])
        for left in range(7, -1, -1):
            self.assertIsNone(desk.undo())
            self.assertEqual(shown(desk), states[left])
        raised(self, NothingToUndo, desk.undo)

    def test_too_often(self):
        desk = filled()
        before = shown(desk)
        for times in (5, 6, 10 ** 100):
            raised(self, NothingToUndo, desk.undo, times=times)
            self.assertEqual(shown(desk), before)
        for times in (0, -1, None, True, False, "1", (1,), [1], Other()):
            self.assertIs(raised(self, InvalidNumber, desk.undo, times=times).number, times)
            self.assertEqual(shown(desk), before)
        with self.assertRaises(TypeError):
            desk.undo(1)

    def test_over_what_do_all_did(self):
        desk = Desk()
        desk["z"] = 1
        desk.do_all(("keep", "a", M), ("keep", "b", N), ("drop", "z"))
        desk.undo(times=2)
        self.assertEqual((desk.names, len(desk.history)), (("a", "z"), 2))
        desk.undo(times=2)
        self.assertEqual((desk.names, desk.history), ((), ()))

    def test_what_failed_is_not_taken_back(self):
        desk = filled()
        raised(self, Refused, desk.drop, "sum")
        raised(self, Refused, desk.do_all, ("keep", "a", M), ("drop", "sum"))
        desk.undo()
        self.assertEqual((desk.claims, len(desk.history)), ((), 3))

    def test_what_was_shown_stays(self):
        desk = filled()
        history, claims, names = desk.history, desk.claims, desk.names
        desk.undo(times=4)
        self.assertEqual((len(history), len(claims), names), (4, 1, ("both", "either", "sum")))


if __name__ == "__main__":
    unittest.main()
