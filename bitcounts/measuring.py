"""What is measured of integers: ones, lengths, whether they are 0, powers by ones; and the lines that tell it.

The kinds are "ones", "length", "zero", and integers: the base whose power by the ones is meant.
"""


def ones_of(number):
    return f"{number:b}".count("1")


def powers_of(base, counts):
    """The powers of the base by these numbers."""
    powers = [1]
    for _ in range(max([int(many) for many in counts], default=0)):
        powers.append(powers[-1] * base)
    return [powers[many] for many in counts]


def measured_numbers(kind, numbers):
    """What is measured of these integers, of their opposites below 0."""
    if kind == "ones":
        return [f"{number:b}".count("1") for number in numbers]
    if kind == "length":
        return [abs(number).bit_length() for number in numbers]
    if kind == "zero":
        return [int(number == 0) for number in numbers]
    return powers_of(kind, [f"{number:b}".count("1") for number in numbers])


class Marks:
    """The places of words in a column for which measuring takes further lines, each kind of line only once.

    `below` are those that are told apart by where they are less than 0, `steep` by how much more the ones or the
    length of the opposite are there than those of what the word is when all digits change; `naught` by where they are
    0, and `minus` by where they are -1.
    """

    def __init__(self, below, steep, naught, minus):
        self.below = below
        self.steep = steep
        self.naught = naught
        self.minus = minus


def lines_of_ones(numbers, column, marks):
    """The ones of numbers or of what they are when all digits change, and where these are less than 0."""
    lines = [1, *[f"{number if number >= 0 else ~number:b}".count("1") for number in numbers]]
    lines.extend([int(column[place] < 0) for place in marks.below])
    for place in marks.steep:
        number = column[place]
        lines.append(ones_of(-number) - ones_of(~number) if number < 0 else 0)
    return lines


def lines_of_lengths(numbers, column, marks):
    lines = [1, *[(number if number >= 0 else ~number).bit_length() for number in numbers]]
    lines.extend([int(column[place] == 0) for place in marks.naught])
    lines.extend([int(column[place] == -1) for place in marks.minus])
    for place in marks.steep:
        number = column[place]
        lines.append((-number).bit_length() - (~number).bit_length() if number < 0 else 0)
    return lines


def lines_of_powers(base, numbers, column, marks):
    """The powers by the ones of numbers, and for those that may be less than 0 those of both sides."""
    lines = list(powers_of(base, [ones_of(number) for number in numbers]))
    low = [column[place] for place in marks.below]
    changed = powers_of(base, [ones_of(number if number >= 0 else ~number) for number in low])
    for number, power in zip(low, changed):
        lines.append(power if number >= 0 else 0)
        lines.append(0 if number >= 0 else power)
    return lines


def lines_measured(kind, column, marks):
    """The values of lines by which what is measured at 2 * x + e is told by what is at x.

    The column has 1 and then the values of words.
    """
    numbers = column[1:]
    if kind == "ones":
        return lines_of_ones(numbers, column, marks)
    if kind == "length":
        return lines_of_lengths(numbers, column, marks)
    return lines_of_powers(kind, numbers, column, marks)
