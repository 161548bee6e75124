"""The checker: each clause broken by itself, claims that are not true, values of any kind, limits."""

import ast
import random
import unittest
from fractions import Fraction
from itertools import product
from pathlib import Path

from bitcounts.certificates import certify_parting, certify_relations, certify_within, plain_machine, plain_rule
from bitcounts.checker import accepts
from bitcounts.conditions import always
from bitcounts.counting import ones
from bitcounts.words import formula, rests, same, var
from tests.drawn import drawn_formula
from tests.support import Other

M, N, K, P = var("m"), var("n"), var("k"), var("p")
GREATEST = 10 ** 100
FOLDER = Path(__file__).parent.parent / "bitcounts"
OTHERS = [None, True, False, 0, 1, -1, "", "m", "same", (), (0,), ((),), [], {}, b"m", Other(), Other, M, M < N,
          ((0, 1),), (1, 1), ((1, 1),), ("m",), range(3), 10 ** 120]


def one_row(*numbers):
    return tuple((number, 1) for number in numbers)


def places(value, path=()):
    """All places within nested tuples, each as the indexes that lead there."""
    found = [path]
    if isinstance(value, tuple):
        for at, item in enumerate(value):
            found.extend(places(item, path + (at,)))
    return found


def get(value, path):
    for at in path:
        value = value[at]
    return value


def put(value, path, item):
    if not path:
        return item
    return value[:path[0]] + (put(value[path[0]], path[1:], item),) + value[path[0] + 1:]


def lists_for(value, path):
    inner = get(value, path)
    return put(value, path, list(inner))


SAME = certify_parting(M + N, (M ^ N) + 2 * (M & N))
EVEN = certify_parting(ones(M) + ones(N) - ones(M + N), ones(M ^ N) + 2 * ones(M & N) - ones(M + N))
PARTING = certify_parting(M + N, (M | N) + (M & N & 2))
RELATION = certify_relations(M & N, M | N, M, N)[0]
WITHIN = certify_within(M < N, M <= N)
OUTSIDE = certify_within(M <= N, M < N)
APART = (("apart", *PARTING[0][1:]), ())
ALL = [SAME, EVEN, PARTING, RELATION, WITHIN, OUTSIDE, APART]
LINE = (("m",), ((one_row(2, 0), one_row(2, 1)), (one_row(0, 1), one_row(-2, 3))), (0, 1), one_row(1, 0))


class Accepting(unittest.TestCase):
    def test_these(self):
        self.assertEqual([claim[0] for claim, _ in ALL],
                         ["same", "same", "parting", "relation", "within", "outside", "apart"])
        for claim, paper in ALL:
            self.assertIs(accepts(claim, paper), True)
            self.assertIs(accepts(claim=claim, certificate=paper), True)

    def test_certificates_of_others(self):
        for claim, _ in ALL:
            for _, paper in ALL:
                self.assertTrue(is_true(claim) or not accepts(claim, paper))
        self.assertIs(accepts(SAME[0], WITHIN[1]) or accepts(WITHIN[0], SAME[1]) or accepts(SAME[0], ()), False)

    def test_it_stands_by_itself(self):
        imports = {}
        for path in FOLDER.glob("*.py"):
            tree = ast.parse(path.read_text())
            imports[path.stem] = {node.module for node in tree.body if isinstance(node, ast.ImportFrom)}
        own, waiting = set(), ["checker"]
        while waiting:
            name = waiting.pop()
            own.add(name)
            for module in imports[name] - {"bitcounts.limits", "bitcounts.errors", "math"}:
                waiting.append(module.removeprefix("bitcounts."))
        self.assertEqual(own, {"checker", "plain_spans", "plain_values"})
        for name in set(imports) - own:
            self.assertFalse(imports[name] & {f"bitcounts.{module}" for module in own}, name)


class Breaking(unittest.TestCase):
    def refuse(self, claim, paper):
        self.assertIs(accepts(claim, paper), False)

    def test_any_values(self):
        for value in OTHERS:
            for other in OTHERS:
                self.refuse(value, other)
            for claim, paper in ALL:
                self.refuse(value, paper)
                if value != paper or value is False:
                    self.refuse(claim, value)

    def test_any_value_in_each_place(self):
        chance = random.Random(1)
        for claim, paper in ALL:
            whole = (claim, paper)
            for path in places(whole)[1:]:
                old = get(whole, path)
                for value in chance.sample(OTHERS, 5):
                    if value == old or isinstance(value, int) and isinstance(old, int):
                        continue
                    if value == (1, 1) and accepts(*put(whole, path, value)):
                        # Another fraction may make a true claim.
                        self.assertTrue(is_true(put(whole, path, value)[0]))
                        continue
                    self.refuse(*put(whole, path, value))

    def test_true_and_false_for_integers(self):
        for claim, paper in ALL:
            whole = (claim, paper)
            for path in places(whole):
                old = get(whole, path)
                if type(old) is int and old in (0, 1):
                    self.refuse(*put(whole, path, bool(old)))
                if type(old) is bool:
                    self.refuse(*put(whole, path, int(old)))

    def test_lists_for_tuples(self):
        for claim, paper in ALL:
            whole = (claim, paper)
            for path in places(whole)[1:]:
                if isinstance(get(whole, path), tuple):
                    self.refuse(*lists_for(whole, path))

    def test_one_item_more_or_less(self):
        for claim, paper in ALL:
            whole = (claim, paper)
            for path in places(whole)[1:]:
                old = get(whole, path)
                if isinstance(old, tuple):
                    for new in (old[:-1], old[1:], old + old[-1:], old + (None,)):
                        if new != old and not (claim[0] == "within" and path == (1,)):
                            self.refuse(*put(whole, path, new))

    def test_other_integers(self):
        # Where another integer makes a true claim it may be accepted: then the claim is looked at by its values.
        for claim, paper in ALL:
            whole = (claim, paper)
            for path in places(whole):
                old = get(whole, path)
                if type(old) is int:
                    for new in (old + 1, old - 1, -old - 7, 10 ** 30):
                        changed = put(whole, path, new)
                        if accepts(*changed):
                            self.assertTrue(is_true(changed[0]), (path, new))

    def test_names(self):
        for claim, paper in ALL:
            whole = (claim, paper)
            for path in places(claim):
                if get(claim, path) == ("m", "n"):
                    for names in (("n", "m"), ("m", "m"), ("m", "N"), ("m", ""), ("m", "n1"), ("m", "abcdefghi"),
                                  ("m", b"n"), ("m", 5), ("m", "n", "n")):
                        self.refuse(*put(whole, (0,) + path, names))
                if get(claim, path) in ("m", "n"):
                    self.refuse(*put(whole, (0,) + path, "M"))

    def test_kinds(self):
        kinds = ["same", "apart", "parting", "relation", "within", "outside", "Same", "", "other"]
        for claim, paper in ALL:
            for kind in kinds:
                if kind != claim[0] and not (claim[0] == "parting" and kind == "apart"):
                    self.refuse((kind, *claim[1:]), paper)
            self.refuse(claim + (None,), paper)
            self.refuse(claim[:-1], paper)


def plain_value(rule, numbers):
    """The value of a plain rule by fractions, straight from the words of the document."""
    names, sides, firsts, told = rule
    lines = [Fraction(first) for first in firsts]
    tuple_of = [numbers.get(name, 0) for name in names]
    for place in reversed(range(max([number.bit_length() for number in tuple_of], default=0))):
        at = 0
        for number in tuple_of:
            at = 2 * at + (number >> place & 1)
        lines = [sum((Fraction(*by) * line for by, line in zip(row, lines)), Fraction(0)) for row in sides[at]]
    return sum((Fraction(*by) * line for by, line in zip(told, lines)), Fraction(0))


def machine_holds(machine, numbers):
    names, ways, marks = machine
    state = 0
    for place in range(12):
        at = 0
        for name in names:
            at = 2 * at + (numbers.get(name, 0) >> place & 1)
        state = ways[state][at]
    return marks[state]


def is_true(claim):
    """Whether a claim that was accepted stands, as far as small numbers show."""
    grid = [dict(m=m, n=n) for m, n in product(range(9), repeat=2)]
    if claim[0] == "relation":
        return all(sum(factor * plain_value(rule, at) for rule, factor in zip(claim[1], claim[2])) == 0 for at in grid)
    if claim[0] == "same":
        return all(plain_value(claim[1], at) == plain_value(claim[2], at) for at in grid)
    if claim[0] == "within":
        return all(machine_holds(claim[2], at) or not machine_holds(claim[1], at) for at in grid)
    numbers = dict(claim[3])
    if claim[0] == "outside":
        return machine_holds(claim[1], numbers) and not machine_holds(claim[2], numbers)
    if plain_value(claim[1], numbers) == plain_value(claim[2], numbers):
        return False
    if claim[0] == "apart":
        return True
    last = order_of(numbers)
    return all(plain_value(claim[1], at) == plain_value(claim[2], at) for at in grid if order_of(at) < last)


def order_of(numbers):
    row = tuple(numbers[name] for name in sorted(numbers))
    return max(row).bit_length(), row


class Clauses(unittest.TestCase):
    def test_fractions(self):
        claim, paper = certify_parting(M, M)
        for bad in ((2, 2), (0, 2), (1, 0), (1, -1), (-2, -2), (4, 2), (0, 0), (0, -1), (1,), (1, 1, 1), 1, "11"):
            for at in range(2):
                self.assertIs(accepts(put(claim, (1, 1, at, 0, 0), bad), paper), False)
            self.assertIs(accepts(put(claim, (1, 3, 0), bad), paper), False)
            self.assertIs(accepts(claim, put(paper, (1, 0, 0, 0), bad)), False)

    def test_firsts_must_come_again(self):
        other = put(LINE, (2,), (0, 2))
        self.assertIs(accepts(("apart", LINE, other, (("m", 1),)), ()), True)
        other = put(LINE, (2,), (1, 1))
        self.assertIs(accepts(("apart", LINE, other, (("m", 1),)), ()), False)
        half = ((), (((((1, 2),),)),), (0,), ((1, 1),))
        self.assertIs(accepts(("same", half, plain_rule(0)), (((),), ((one_row(1),),))), True)
        self.assertIs(accepts(("apart", put(half, (2,), (1,)), plain_rule(0), ()), ()), False)

    def test_lines_with_fractions_as_values(self):
        # Half of m, told by halves, beside itself.
        half = (("m",), ((((1, 1),),), (((1, 1),),)), (3,), ((1, 2),))
        self.assertIs(accepts(("same", half, half), (((0,),), ((one_row(1), one_row(1)),))), True)
        shrinking = (("m",), ((((1, 1), (0, 1)), ((0, 1), (1, 1))), (((1, 2), (0, 1)), ((0, 1), (1, 1)))), (1, 1),
                     ((1, 1), (0, 1)))
        for number, expected in ((0, False), (1, True), (2 ** 332, True)):
            self.assertIs(accepts(("apart", shrinking, plain_rule(1), (("m", number),)), ()), expected)
        least = accepts(("parting", shrinking, plain_rule(1), (("m", 1),)), (((0,),), ((one_row(1), None),)))
        self.assertIs(least, True)

    def test_points_in_order(self):
        claim, paper = certify_parting(M + N, M + N)
        points, rows = paper
        self.assertEqual(points, ((0, 0), (0, 1)))
        self.assertIs(accepts(claim, (points[::-1], rows[::-1])), False)
        self.assertIs(accepts(claim, (points + points[1:], rows + rows[1:])), False)
        self.assertIs(accepts(claim, (((0, 0), (0, -1)), rows)), False)
        self.assertIs(accepts(claim, (((0, 0), (1, 0)), rows)), False)
        self.assertIs(accepts(claim, (((0, 0, 0), (0, 1, 0)), rows)), False)

    def test_more_points_than_needed(self):
        claim = ("same", LINE, LINE)
        values = {number: (number, 2 * number + 1) for number in range(4)}

        def row(number):
            # The lines are m and 2 * m + 1, and hence told by the points 0 and 1.
            return one_row(1 - number, number, 0, 0) if number > 3 else one_row(*[int(at == number) for at in range(4)])

        points = tuple((number,) for number in values)
        rows = tuple((row(2 * number), row(2 * number + 1)) for number in values)
        self.assertIs(accepts(claim, (points, rows)), True)
        ahead = put(rows, (1, 0), one_row(-1, 2, 0, 0))
        self.assertIs(accepts(claim, (points, ahead)), True)
        # Points behind 2 * x + e may not be used, although the values are right.
        behind = put(rows, (0, 1), one_row(0, 0, 3, -2))
        self.assertIs(accepts(claim, (points, behind)), False)
        self.assertIs(accepts(claim, (points, put(rows, (3, 0), None))), False)

    def test_the_first_point(self):
        claim = ("same", LINE, LINE)
        self.assertIs(accepts(claim, (((1,),), ((one_row(2), one_row(3)),))), False)
        self.assertIs(accepts(claim, ((), ())), False)
        zero = (("m",), ((one_row(1),), (one_row(1),)), (0,), one_row(1))
        self.assertIs(accepts(("same", zero, plain_rule(0)), ((), ())), True)
        self.assertIs(accepts(("same", zero, zero), ((), ())), True)

    def test_none_in_spans(self):
        claim, paper = certify_parting(M, M & 7)
        self.assertEqual(claim[3], (("m", 8),))
        self.assertIs(accepts(claim, paper), True)
        points, rows = paper
        for at, point in enumerate(points):
            for digit in (0, 1):
                number = 2 * point[0] + digit
                self.assertEqual(rows[at][digit] is None, number >= 8)
                if number < 8:
                    self.assertIs(accepts(claim, (points, put(rows, (at, digit), None))), False)
                else:
                    wrong = one_row(*[1] * len(points))
                    self.assertIs(accepts(claim, (points, put(rows, (at, digit), wrong))), False)
        # A row that is right may stand there, too.
        claim, paper = certify_parting(M, 2 * M)
        self.assertIs(accepts(claim, put(paper, (1, 0, 1), one_row(1))), False)
        self.assertIs(accepts(("parting", plain_rule(1), plain_rule(2), ()), ((), ())), True)

    def test_points_behind_the_tuple(self):
        claim, paper = certify_parting(M, 2 * M)
        more = (((0,), (1,)), ((one_row(1, 0), one_row(0, 1)), (None, None)))
        self.assertIs(accepts(claim, paper), True)
        self.assertIs(accepts(claim, more), False)

    def test_no_lesser_tuple(self):
        claim, paper = certify_parting(M, M & 7)
        for number in (0, 7, 9, 15, 16, 2 ** 40):
            self.assertIs(accepts(put(claim, (3, 0, 1), number), paper), False)
        self.assertIs(accepts(("apart", *claim[1:3], (("m", 9),)), ()), True)

    def test_numbers_of_any_size(self):
        for number, expected in ((GREATEST, True), (GREATEST + 1, False), (10 ** 130, False), (-1, False)):
            claim = ("apart", LINE, plain_rule(0), (("m", number),))
            self.assertIs(accepts(claim, ()), expected)
        outside = ("outside", plain_machine(always()), plain_machine(M < 5), (("m", 10 ** 130),))
        self.assertIs(accepts(outside, ()), True)
        self.assertIs(accepts(put(outside, (3, 0, 1), 4), ()), False)
        self.assertIs(accepts(put(outside, (3, 0, 1), -1), ()), False)

    def test_the_names_of_pairs(self):
        claim = ("apart", plain_rule(M), plain_rule(N + 1), (("m", 0), ("n", 0)))
        self.assertIs(accepts(claim, ()), True)
        for pairs in ((("n", 0), ("m", 0)), (("m", 0),), (("m", 0), ("n", 0), ("o", 0)), (("m", 0), ("o", 0)), (),
                      (("m", 0), ("m", 0)), (("m", 0), ("n",)), (("m", 0), ("n", 0, 0)), (["m", 0], ("n", 0)), None):
            self.assertIs(accepts((*claim[:3], pairs), ()), False)
        for paper in (None, [], False, 0, "", ((), ()), (None,)):
            self.assertIs(accepts(claim, paper), False)

    def test_integers_and_no_lines(self):
        self.assertIs(accepts(("same", plain_rule(3), plain_rule(3)), (((),), ((one_row(1),),))), True)
        self.assertIs(accepts(("same", plain_rule(3), plain_rule(4)), (((),), ((one_row(1),),))), False)
        self.assertIs(accepts(("same", plain_rule(0), plain_rule(0)), ((), ())), True)
        self.assertIs(accepts(("same", plain_rule(0), plain_rule(0)), (((),), (((one_row(1)),),))), True)
        self.assertIs(accepts(("relation", (plain_rule(0),), (5,)), ((), ())), True)
        self.assertIs(accepts(("apart", plain_rule(3), plain_rule(4), ()), ()), True)
        self.assertIs(accepts(("apart", plain_rule(3), plain_rule(3), ()), ()), False)
        self.assertIs(accepts(("apart", plain_rule(0), plain_rule(10 ** 130), ()), ()), True)
        self.assertIs(accepts(("parting", plain_rule(0), plain_rule(2), ()), (((),), ((None,),))), False)
        idle = (("m", "n", "p"), ((),) * 8, (), ())
        self.assertIs(accepts(("same", idle, plain_rule(0)), ((), ())), True)
        self.assertIs(accepts(("same", idle, plain_rule(K)), ((), ())), False)

    def test_three_names_together(self):
        rules = [plain_rule(one) for one in (0 * M, M + N, K, P)]
        zeros = (0, 0, 0, 0)
        claim, paper = certify_relations(M + N, K, 0)[0]
        self.assertIs(accepts(claim, paper), True)
        self.assertIs(accepts(("relation", tuple(rules), zeros), paper), False)
        self.assertIs(accepts(("apart", plain_rule(M + N), plain_rule(K + P), tuple(zip("kmnp", (0, 0, 0, 1)))), ()),
                      False)
        self.assertIs(accepts(("outside", plain_machine(M < N), plain_machine(K < P),
                               tuple(zip("kmnp", (0, 0, 1, 0)))), ()), False)

    def test_how_many_rules(self):
        one, zero = plain_rule(1), plain_rule(0)
        paper = (((),), ((one_row(1),),))
        for many in range(1, 7):
            factors = (1,) * (many - 1) + (1 - many,)
            self.assertIs(accepts(("relation", (one,) * many, factors), paper), True)
            self.assertIs(accepts(("relation", (one,) * many, factors + (0,)), paper), False)
            self.assertIs(accepts(("relation", (one,) * many, factors[1:]), paper), False)
        self.assertIs(accepts(("relation", (one,) * 7, (1,) * 6 + (-6,)), paper), False)
        self.assertIs(accepts(("relation", (), ()), ((), ())), False)
        self.assertIs(accepts(("relation", [zero], (1,)), ((), ())), False)
        for factor in (True, "1", None, (1, 1), 1.5):
            self.assertIs(accepts(("relation", (zero,), (factor,)), ((), ())), False)

    def test_how_many_lines(self):
        for many, expected in ((100, True), (101, False)):
            side = tuple(one_row(*[int(at == place) for at in range(many)]) for place in range(many))
            rule = ((), (side,), (1,) * many, one_row(*[1] * many))
            self.assertIs(accepts(("same", rule, plain_rule(many)), (((),), ((one_row(1),),))), expected)

    def test_how_many_points(self):
        constant = (("m",), ((one_row(1),), (one_row(1),)), (7,), one_row(1))
        for many, expected in ((200, True), (201, False)):
            points = tuple((number,) for number in range(many))
            rows = ((one_row(1, *[0] * (many - 1)),) * 2,) * many
            self.assertIs(accepts(("same", constant, plain_rule(7)), (points, rows)), expected)

    def test_how_many_states(self):
        for many, expected in ((256, True), (257, False)):
            ways = tuple((min(at + 1, many - 1),) for at in range(many))
            chain = ((), ways, (True,) * many)
            paper = tuple((at, 0) for at in range(many))
            self.assertIs(accepts(("within", chain, plain_machine(always())), paper), expected)
        self.assertIs(accepts(("within", ((), (), ()), plain_machine(always())), ((0, 0),)), False)

    def test_how_many_pairs(self):
        one = ("m",), tuple((at, at) for at in range(65)), (True,) * 65
        other = ("m",), tuple((at, at) for at in range(64)), (True,) * 64
        pairs = tuple(product(range(65), range(64)))
        self.assertIs(accepts(("within", one, other), pairs[:4096]), True)
        self.assertIs(accepts(("within", one, other), pairs[:4097]), False)

    def test_machines(self):
        claim, paper = WITHIN
        for machine in (1, 2):
            for change in (((1, 0, 0), 2), ((1, 0, 0), -1), ((1, 0, 0), True), ((2, 0), 0), ((2, 0), None),
                           ((2, 0), not claim[machine][2][0])):
                self.assertIs(accepts(put(claim, (machine, *change[0]), change[1]), paper), False)
        # A state's mark is that of the state that follows by zeros.
        flipping = (("m",), ((1, 1), (0, 0)), (True, False))
        self.assertIs(accepts(("within", flipping, plain_machine(always())), ((0, 0), (1, 0))), False)
        self.assertIs(accepts(("outside", plain_machine(always()), flipping, (("m", 1),)), ()), False)

    def test_pairs_of_states(self):
        claim, paper = WITHIN
        self.assertEqual(paper[0], (0, 0))
        self.assertIs(accepts(claim, paper[1:]), False)
        self.assertIs(accepts(claim, paper[::-1]), False)
        self.assertIs(accepts(claim, paper + paper[-1:]), False)
        self.assertIs(accepts(claim, ()), False)
        for at in range(len(paper)):
            self.assertIs(accepts(claim, paper[:at] + paper[at + 1:]), False)
        false = ("within", claim[2], claim[1])
        for pairs in (paper, tuple(product(range(2), repeat=2)), ((0, 0),), ()):
            self.assertIs(accepts(false, pairs), False)


class Truth(unittest.TestCase):
    def test_false_claims_with_any_certificate(self):
        chance = random.Random(15)
        papers = [paper for _, paper in ALL]
        for _ in range(60):
            (one, _), (other, _) = drawn_formula(chance), drawn_formula(chance)
            claim, paper = certify_parting(one, other)
            for wrong in papers + [paper, certify_parting(one, one)[1], certify_parting(other, other)[1]]:
                if claim[0] == "parting":
                    self.assertIs(accepts(("same", *claim[1:3]), wrong), False)
                    self.assertIs(accepts(("relation", claim[1:3], (1, -1)), wrong), False)
                else:
                    self.assertIs(accepts(("apart", *claim[1:], tuple((name, 3) for name in one.names)), wrong), False)

    def test_relations_that_fail(self):
        for claim, paper in certify_relations(M & N, M | N, M, N, ones(M), 2 * ones(M)):
            for at in range(6):
                factors = list(claim[2])
                factors[at] += 1
                self.assertIs(accepts(("relation", claim[1], tuple(factors)), paper), False)
            double = tuple(2 * factor for factor in claim[2])
            self.assertIs(accepts(("relation", claim[1], double), paper), True)

    def test_changed_rules(self):
        chance = random.Random(16)
        for _ in range(150):
            (claim, paper) = chance.choice([SAME, RELATION, PARTING])
            paths = [path for path in places(claim) if type(get(claim, path)) is int]
            changed = put(claim, chance.choice(paths), chance.randint(-3, 3))
            if accepts(changed, paper):
                self.assertTrue(is_true(changed))

    def test_other_machines_that_hold(self):
        for one, other in ((M < 4, M < 9), (same(M & N, 0), same(M + N, M ^ N)), (rests(M, 6, 1), rests(M, 3, 1))):
            claim, paper = certify_within(one, other)
            self.assertEqual((claim[0], accepts(claim, paper)), ("within", True))
            # More pairs than need be, if those that follow are there.
            self.assertIs(accepts(("within", claim[1], claim[1]), certify_within(one, one)[1]), True)

    def test_nothing_is_changed(self):
        for claim, paper in ALL:
            before = repr((claim, paper))
            accepts(claim, paper)
            self.assertEqual(repr((claim, paper)), before)
        self.assertEqual(formula(M), formula(M))


if __name__ == "__main__":
    unittest.main()
