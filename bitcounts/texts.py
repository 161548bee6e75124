"""Texts of words, formulas and tests."""

from bitcounts.counting import length, ones
from bitcounts.errors import InvalidText
from bitcounts.parsing import FORMULA, TEST, WORD, parsed
from bitcounts.words import formula, same, var, word


def joined_by(sign, one, other):
    if sign == "+":
        return one + other
    if sign == "-":
        return one - other
    if sign == "*":
        return one * other
    if sign == "&":
        return one & other
    if sign == "|":
        return one | other
    if sign == "^":
        return one ^ other
    return compared_by(sign, one, other)


def compared_by(sign, one, other):
    if sign == "<":
        return one < other
    if sign == "<=":
        return one <= other
    if sign == "and":
        return one & other
    if sign == "or":
        return one | other
    return same(one, other)


def made(tree):
    """What the tree of a text tells, made in the order in which its operators end."""
    sign, parts = tree[0], tree[1:]
    if sign == "name":
        return var(parts[0])
    if sign == "number":
        return word(parts[0])
    one = made(parts[0])
    if len(parts) == 1:
        return changed_by(sign, one)
    if sign == "times":
        return parts[1] * one
    if sign == "<<":
        return one << parts[1]
    if sign == ">>":
        return one >> parts[1]
    return joined_by(sign, one, made(parts[1]))


def changed_by(sign, one):
    if sign == "opposite":
        return -one
    if sign == "ones":
        return ones(one)
    if sign == "length":
        return length(one)
    return ~one


def read_as(text, kinds):
    """What a text of one of these kinds tells."""
    if not isinstance(text, str):
        raise InvalidText(text)
    found = parsed(text)
    if found is None or found[0] not in kinds:
        raise InvalidText(text)
    return made(found[1])


def read_word(text):
    """The word that the text tells."""
    return read_as(text, (WORD,))


def read_formula(text):
    """The formula that the text tells; a text that is one of a word is read as the word."""
    return formula(read_as(text, (WORD, FORMULA)))


def read_test(text):
    """The test that the text tells."""
    return read_as(text, (TEST,))
