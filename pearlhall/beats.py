"""Borders and beats of a row, and two rows compared endless."""


def borders(row):
    return [size for size in range(1, len(row)) if row.endswith(row[:size])]


def beats(row):
    # Pearls a beat apart are alike just if the row without its first so many pearls is a beginning of the row.
    return [beat for beat in range(1, len(row) + 1) if row.startswith(row[beat:])]


def endless(one, other):
    # Where both texts end, both rows begin anew together: if nothing differed up to there, nothing ever will.
    first = one * len(other)
    second = other * len(one)
    if first == second:
        return 0
    return -1 if first < second else 1
