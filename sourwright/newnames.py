"""Names that are not taken."""

from sourwright.forms import LETTERS, is_word


def new_words(taken, many):
    """So many different words, the shortest ones first, of which none is taken."""
    found = []
    number = 0
    while len(found) < many:
        word = word_at(number)
        if is_word(word) and word not in taken:
            found.append(word)
        number += 1
    return tuple(found)


def word_at(number):
    """The letters with this number, if all are counted, the short ones first, then by the alphabet."""
    letters = ""
    left = number + 1
    while left > 0:
        left, at = divmod(left - 1, len(LETTERS))
        letters = LETTERS[at] + letters
    return letters
