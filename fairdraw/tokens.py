"""The words and signs of one row of text [10]."""

from fairdraw.errors import NoText
from fairdraw.parts import FIGURES, LETTERS, is_name

SIGNS = "+-<=(),:/"
MOST_FIGURES = 60


def word_end(text, begin):
    """Where the longest run of small letters and figures from begin on ends."""
    end = begin
    while end < len(text) and (text[end] in LETTERS or text[end] in FIGURES):
        end += 1
    return end


def cut(text, row):
    """The words and signs of the row of that number, without its blanks."""
    found = []
    place = 0
    while place < len(text):
        end = word_end(text, place)
        if end > place:
            found.append(text[place:end])
            place = end
        elif text[place] in SIGNS:
            found.append(text[place])
            place += 1
        elif text[place] == " ":
            place += 1
        else:
            raise NoText(row)
    return found


def is_number(word, figures):
    """Whether a word is a number of at most so many figures."""
    if len(word) == 0 or len(word) > figures:
        return False
    if word[0] == "0" and word != "0":
        return False
    return all([sign in FIGURES for sign in word])


class Words:
    """The words and signs of one row, taken from the left."""

    def __init__(self, text, row):
        self.row = row
        self.words = cut(text, row)
        self.place = 0

    def peek(self):
        """The next word or sign; behind the last one the text without signs."""
        if self.place == len(self.words):
            return ""
        return self.words[self.place]

    def skips(self, word):
        """Whether that word or sign is the next one, which is then gone by."""
        if self.peek() != word:
            return False
        self.place += 1
        return True

    def expect(self, word):
        """Goes by that word or sign."""
        if not self.skips(word):
            raise NoText(self.row)

    def expect_end(self):
        """Refuses what stands behind the row's form."""
        if self.peek() != "":
            raise NoText(self.row)


def take_name(words):
    """The name that is the next word."""
    word = words.peek()
    if not is_name(word):
        raise NoText(words.row)
    words.expect(word)
    return word


def take_number(words, figures):
    """The number of at most so many figures that is the next word."""
    word = words.peek()
    # the figures are counted first, as Python's own reading of numbers has a bound
    if not is_number(word, figures):
        raise NoText(words.row)
    words.expect(word)
    return int(word)
