"""Cases as texts: a row for each face."""

from fontfall.errors import BadText
from fontfall.faces import Case, is_name

FIRST_WORD = "face"
FIGURES = "0123456789"
MOST_FIGURES = 3


def written(case):
    """Tell the case as a text."""
    return "\n".join([written_face(name, rank, signs) for name, rank, signs in case.faces()])


def written_face(name, rank, signs):
    """Tell the row of a face."""
    return " ".join([FIRST_WORD, name] + [str(number) for number in (rank, *signs)])


def read(text):
    """Tell the case that a text is of; refuse with BadText, else with BadCase."""
    # The empty text is a case of no faces, not one empty row.
    rows = text.split("\n") if text else []
    return Case([read_face(number, row) for number, row in enumerate(rows)])


def read_face(number, row):
    """Tell the face of a row; raise BadText with the row's number if its words are not those of a face."""
    words = row.split(" ")
    if not are_words_of_face(words):
        raise BadText(number)
    return (words[1], int(words[2]), tuple([int(word) for word in words[3:]]))


def are_words_of_face(words):
    """Tell whether these are the word "face", a name, a rank, and signs if any, as far as words tell it."""
    if len(words) < 3 or words[0] != FIRST_WORD or not is_name(words[1]):
        return False
    return all(is_number(word) for word in words[2:])


def is_number(word):
    """Tell whether the word is one to three figures without a needless 0."""
    if not 1 <= len(word) <= MOST_FIGURES or not all(figure in FIGURES for figure in word):
        return False
    return word == "0" or word[0] != "0"
