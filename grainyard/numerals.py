"""Numbers of any size: their decimal texts and their common divisors."""

GROUP = 10**64


def decimal_text(number):
    """The decimal text of a number, also of one with more digits than Python's own str writes."""
    if number < 0:
        return f"-{decimal_text(-number)}"
    rest = number
    groups = []
    while rest >= GROUP:
        rest, group = divmod(rest, GROUP)
        groups.append(f"{group:064d}")
    groups.append(str(rest))
    return "".join(groups[::-1])


def common_divisor(numbers):
    """The greatest common divisor of numbers, 0 if none of them differs from 0."""
    found = 0
    for number in numbers:
        rest = abs(number)
        while rest:
            found, rest = rest, found % rest
    return found
