"""Numbers that are told near: the greatest k such that k / MANY is not above them, and whether it is them."""

from math import lcm


def whole_table(table):
    """Return rows of whole numbers and the divisor by which they are TABLE."""
    divisor = 1
    for row in table:
        for _, low in row:
            divisor = lcm(divisor, low)
    return [[top * (divisor // low) for top, low in row] for row in table], divisor


def multiplied_rows(first, second):
    columns = list(zip(*second))
    return [[sum([x * y for x, y in zip(row, column)]) for column in columns] for row in first]


def root_polynomial(rows):
    """Return the numbers, that of the highest power first, of the determinant of x less ROWS of whole numbers.

    (Le Verrier 1840: each division by STEP leaves nothing.)
    """
    numbers, held = [1], [[int(at == place) for place in range(len(rows))] for at in range(len(rows))]
    for step in range(1, len(rows) + 1):
        held = multiplied_rows(rows, held)
        numbers.append(-(sum([held[at][at] for at in range(len(rows))]) // step))
        for at in range(len(rows)):
            held[at][at] += numbers[step]
    return numbers


def moved(numbers, amount):
    """Return the numbers of the polynomial of x + AMOUNT: its roots lie lower by AMOUNT."""
    numbers = list(numbers)
    for last in range(len(numbers) - 1, 0, -1):
        for at in range(1, last + 1):
            numbers[at] += amount * numbers[at - 1]
    return numbers


def root_sides(numbers):
    """Return how many roots of a polynomial are below 0 and how many above, if all of them are real.

    Then as many are above 0 as its numbers change signs (Descartes), and as many are 0 as noughts stand last.
    """
    signs = [number > 0 for number in numbers if number != 0]
    above = len([at for at in range(1, len(signs)) if signs[at] != signs[at - 1]])
    last = max([at for at in range(len(numbers)) if numbers[at] != 0])
    return (last - above, above)


def greatest_holding(holds):
    """Return the greatest whole number for which HOLDS tells True.

    It is taken to do so for 0 and up to that number, and for none above it.
    """
    high = 1
    while holds(high):
        high = 2 * high
    low = high // 2
    while high - low > 1:
        middle = (low + high) // 2
        if holds(middle):
            low = middle
        else:
            high = middle
    return low


def near_root(table, at, many):
    """Return near for MANY a number x for which TABLE makes of some row other than noughts x times this row.

    All such numbers have to be real and from 0 on; AT is the index of the one that is asked for, told ascending and
    each as often as it counts as a root.
    """
    rows, divisor = whole_table(table)
    numbers = root_polynomial([[many * number for number in row] for row in rows])

    def sides(whole):
        return root_sides(moved(numbers, whole * divisor))

    greatest = greatest_holding(lambda whole: sides(whole)[0] <= at)
    return (greatest, sides(greatest)[1] < len(table) - at)
