"""Claims with certificates, from which others can see that the claims are true."""

from bitcounts.conditions import Test
from bitcounts.errors import NotATest
from bitcounts.papers import plain_lines, relation_papers, rule_paper, states_paper
from bitcounts.relations import checked_formulas
from bitcounts.words import formula


def plain_rule(f):
    """The least rule, with its first line told."""
    checked = formula(f)
    return plain_lines(checked.rule)


def plain_machine(t):
    """The classes of the test as states."""
    machine = checked_machine(t)
    return machine.variables, machine.ways, machine.marks


def checked_machine(value):
    """The machine of what is passed for a test."""
    if not isinstance(value, Test):
        raise NotATest(value)
    return value._machine


def certify_parting(f, g):
    """That they are the same, or at which least tuple they part."""
    one, other = formula(f), formula(g)
    return rule_paper(one, other)


def certify_relations(*formulas):
    """That the formulas add up to 0 by each row of their relations."""
    return relation_papers(checked_formulas(formulas))


def certify_within(t, s):
    """That s holds wherever t does, or at which least tuple it does not."""
    machine, other = checked_machine(t), checked_machine(s)
    return states_paper(machine, other)
