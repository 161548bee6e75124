"""What several test files use."""


def told(formula):
    """All that a formula or word tells of its rule."""
    return formula.names, formula.rank, formula.basis, formula.equations, formula.firsts


def raised(case, kind, action, *values, **named):
    """The error that the call raises, which must be of this very class."""
    with case.assertRaises(kind) as caught:
        action(*values, **named)
    case.assertIs(type(caught.exception), kind)
    return caught.exception


class Other:
    """A kind of value that the program does not know."""
