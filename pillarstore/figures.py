"""Numbers of any size as figures, and back: Python's own str and int refuse more than 4,300 of these."""

FIGURES = "0123456789"
PIECE_FIGURES = 60
PIECE_BOUND = 10 ** 60


def figures_of(number):
    """All figures of a number, a minus ahead of one below 0."""
    left = abs(number)
    pieces = []
    while left >= PIECE_BOUND:
        left, piece = divmod(left, PIECE_BOUND)
        pieces.append(str(piece).zfill(PIECE_FIGURES))
    pieces.append(str(left))
    sign = "-" if number < 0 else ""
    return sign + "".join(reversed(pieces))


def are_figures(word):
    """Whether a word is the figures of a number from 0 on, without a nought ahead."""
    if word == "" or word[0] == "0":
        return word == "0"
    return all([sign in FIGURES for sign in word])


def number_of(figures):
    """The number that figures are of."""
    number = 0
    for sign in figures:
        number = 10 * number + FIGURES.index(sign)
    return number
