"""Numbers of any size: their decimal texts and their common divisors."""

GROUP = 10**64


def decimal_text(number):
    """The decimal text of a number, also of one with more digits than Python's own str writes."""
    if number < 0:
        return f"-{decimal_text(-number)}"
    rest = number
    groups = []
    while rest >= GROUP:
        rest, group = divmod(rest, GROUP)
        groups.append(f"{group:064d}")
    groups.append(str(rest))
    return "".join(groups[::-1])


def grouped_text(number):
    """The decimal text of a number that is not negative, with commas between groups of three digits."""
    digits = decimal_text(number)
    first = (len(digits) - 1) % 3 + 1
    return ",".join([digits[:first]] + [digits[at : at + 3] for at in range(first, len(digits), 3)])


def common_divisor(numbers):
    """The greatest common divisor of numbers, 0 if none of them differs from 0."""
    found = 0
    for number in numbers:
        rest = abs(number)
        while rest:
            found, rest = rest, found % rest
    return found
