"""The words of a desk's rows: names, numbers and cells, refused with NotSound where they are not so written."""

from pillarstore.cells import is_cell
from pillarstore.figures import are_figures, figures_of, number_of
from pillarstore.soundness import require

LETTERS = "abcdefghijklmnopqrstuvwxyz"
MOST_LETTERS = 8
OPEN_WORD = "-"
MINUS = "-"
TEXT_MARK = "'"


class Words:
    """Words that are taken one by one."""

    def __init__(self, words):
        self.words_left = list(words)

    def more(self):
        """Whether a word is left."""
        return len(self.words_left) > 0

    def stands_next(self, word):
        """Whether a word is the next one."""
        return self.more() and self.words_left[0] == word

    def passes(self, word):
        """Takes a word, where it is the next one; whether it was."""
        found = self.stands_next(word)
        if found:
            self.word()
        return found

    def word(self):
        """Takes the next word."""
        require(self.more())
        return self.words_left.pop(0)

    def rest(self):
        """Takes all words that are left."""
        words = self.words_left
        self.words_left = []
        return words

    def name(self):
        """Takes the name of a table."""
        word = self.word()
        require(1 <= len(word) <= MOST_LETTERS and all([sign in LETTERS for sign in word]))
        return word

    def number(self):
        """Takes a number from 0 on."""
        return number_of_word(self.word())

    def cell(self):
        """Takes a cell."""
        return cell_of_word(self.word())

    def end(self):
        """Refuses words that are left."""
        require(not self.more())


def number_of_word(word):
    """The number, from 0 on, that a word is."""
    require(are_figures(word))
    return number_of(word)


def cell_of_word(word):
    """The cell that a word is."""
    if word == OPEN_WORD:
        return None
    cell = word[1:] if word.startswith(TEXT_MARK) else signed_number_of_word(word)
    require(is_cell(cell))
    return cell


def signed_number_of_word(word):
    """The number, maybe with a minus straight ahead, that a word is."""
    if not word.startswith(MINUS):
        return number_of_word(word)
    number = number_of_word(word[1:])
    require(number > 0)
    return -number


def cell_word(cell):
    """The word that a cell is told by."""
    if cell is None:
        return OPEN_WORD
    return TEXT_MARK + cell if isinstance(cell, str) else figures_of(cell)


def parted_by(words, mark):
    """The lists of the words between those that are a mark."""
    parts = [[]]
    for word in words:
        if word == mark:
            parts.append([])
        else:
            parts[-1].append(word)
    return parts
