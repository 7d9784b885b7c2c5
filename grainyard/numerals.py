"""Numbers in decimal, also those with more digits than Python's own str writes."""

GROUP = 10**64


def decimal_text(number):
    """The decimal text of a number of any size."""
    if number < 0:
        return f"-{decimal_text(-number)}"
    rest = number
    groups = []
    while rest >= GROUP:
        rest, group = divmod(rest, GROUP)
        groups.append(f"{group:064d}")
    groups.append(str(rest))
    return "".join(groups[::-1])
