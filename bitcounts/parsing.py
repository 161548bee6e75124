"""How texts of words, formulas and tests are taken apart.

What is found at a place of a text is told as (kind, tree, end), or None if nothing stands there. A tree is a tuple
of a sign and what it joins: ("name", NAME), ("number", NUMBER), ("times", TREE, FACTOR), ("<<", TREE, PLACES),
(">>", TREE, PLACES), or a sign with one or two trees.
"""

from bitcounts.checks import LETTERS, is_name

WORD = 0
FORMULA = 1
TEST = 2
DIGITS = "0123456789"
MOST_PARENTHESES = 40
GREATEST_NUMBER = 10 ** 6
GREATEST_FACTOR = 16
GREATEST_SHIFT = 8
GREATEST_SHIFT_BACK = 4
OF_WORDS = ("&", "|", "^")
COMPARING = ("<", "<=", "==")
JOINING = ("and", "or")


def run_of(signs, text, at):
    """The longest part of the text from this place on that has only these signs."""
    end = at
    while end < len(text) and text[end] in signs:
        end = end + 1
    return text[at:end]


def number_at(text, at):
    digits = run_of(DIGITS, text, at)
    if len(digits) > len(str(GREATEST_NUMBER)) or digits[0] == "0" and digits != "0":
        return None
    number = int(digits)
    return None if number > GREATEST_NUMBER else (WORD, ("number", number), at + len(digits))


def call_at(text, name, at):
    """A call of `ones` or `length`, whose parenthesis stands at this place."""
    inner = closed(part_at(text, at + 1), text)
    if inner is None or inner[0] != WORD:
        return None
    return FORMULA, (name, inner[1]), inner[2]


def name_at(text, at):
    name = run_of(LETTERS, text, at)
    end = at + len(name)
    if name in ("ones", "length") and text[end:end + 1] == "(":
        return call_at(text, name, end)
    return (WORD, ("name", name), end) if is_name(name) else None


def closed(part, text):
    """The part, with the parenthesis that closes it, which must stand behind it."""
    if part is None or text[part[2]:part[2] + 1] != ")":
        return None
    return part[0], part[1], part[2] + 1


def changed_at(text, sign, at, kinds):
    """What stands in parentheses behind a sign for one part, the part at this place being of one of these kinds."""
    part = closed(part_at(text, at), text)
    if part is None or part[0] not in kinds:
        return None
    return part[0], (sign, part[1]), part[2]


def both_at(text, at):
    """What stands in parentheses with a sign between two parts."""
    one = part_at(text, at)
    if one is None or text[one[2]:one[2] + 1] != " ":
        return None
    start = one[2] + 1
    end = text.find(" ", start, start + 4)
    if end < 0:
        return None
    other = closed(part_at(text, end + 1), text)
    if other is None:
        return None
    joined = joined_parts(text[start:end], one, other)
    return None if joined is None else (joined[0], joined[1], other[2])


def joined_parts(sign, one, other):
    """The kind and the tree of two parts with the sign between them, None if they do not go together."""
    kinds = one[0], other[0]
    tree = sign, one[1], other[1]
    if sign in ("<<", ">>"):
        return shifted_part(sign, one, other)
    if sign in JOINING:
        return (TEST, tree) if kinds == (TEST, TEST) else None
    if TEST in kinds:
        return None
    if sign == "*":
        return product_of(one, other)
    if sign in ("+", "-"):
        return (WORD if kinds == (WORD, WORD) else FORMULA), tree
    if kinds != (WORD, WORD):
        return None
    if sign in OF_WORDS:
        return WORD, tree
    return (TEST, tree) if sign in COMPARING else None


def is_number_up_to(part, most):
    return part[1][0] == "number" and part[1][1] <= most


def shifted_part(sign, one, other):
    most = GREATEST_SHIFT if sign == "<<" else GREATEST_SHIFT_BACK
    if one[0] != WORD or not is_number_up_to(other, most):
        return None
    if sign == ">>" and one[1][0] != "name":
        return None
    return WORD, (sign, one[1], other[1][1])


def product_of(one, other):
    """A multiple is a word, all other products are formulas."""
    if is_number_up_to(one, GREATEST_FACTOR) and other[0] == WORD:
        return WORD, ("times", other[1], one[1][1])
    return FORMULA, ("*", one[1], other[1])


def in_parentheses(text, at):
    """What stands in the parentheses that open before this place."""
    if text.startswith("- ", at):
        return changed_at(text, "opposite", at + 2, (WORD, FORMULA))
    if text.startswith("~ ", at):
        return changed_at(text, "~", at + 2, (WORD,))
    # With anything else behind it, `not` is the name of a variable.
    if text.startswith("not (", at):
        return changed_at(text, "~", at + 4, (TEST,))
    return both_at(text, at)


def part_at(text, at):
    """What stands at this place: a number, a name, a call, or something in parentheses."""
    first = text[at:at + 1]
    if first == "(":
        return in_parentheses(text, at + 1)
    if first == "":
        return None
    if first in DIGITS:
        return number_at(text, at)
    return name_at(text, at) if first in LETTERS else None


def parsed(text):
    """The kind and the tree of the text, None if it is none with at most forty opening parentheses."""
    if text.count("(") > MOST_PARENTHESES:
        return None
    part = part_at(text, 0)
    return None if part is None or part[2] != len(text) else part[:2]
