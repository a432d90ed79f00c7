"""A case: the faces that a text is shown by."""

from fontfall.errors import BadCase
from fontfall.signs import is_sign

MOST_FACES = 8
LONGEST_NAME = 8
HIGHEST_RANK = 9
MOST_SIGNS = 100
SMALL_LETTERS = "abcdefghijklmnopqrstuvwxyz"


class Case:
    """None to eight faces, tuples (name, rank, signs), numbered from 0."""

    def __init__(self, faces):
        refuse_no_case(faces)
        # A copy, for the list may be changed by whoever handed it in.
        self._faces = list(faces)

    def faces(self):
        """Tell the faces, as handed in."""
        # A copy, for the list may be changed by whoever gets it.
        return list(self._faces)


def refuse_no_case(faces):
    """Raise BadCase if the faces are no case."""
    if len(faces) > MOST_FACES:
        raise BadCase("faces", 0)
    number = first_bad_face(faces)
    if number is not None:
        raise BadCase("face", number)


def first_bad_face(faces):
    """Tell the number of the first bad face, or None."""
    ahead = set()
    for number, (name, rank, signs) in enumerate(faces):
        if name in ahead or not is_face(name, rank, signs):
            return number
        ahead.add(name)
    return None


def is_face(name, rank, signs):
    """Tell whether these make a face, whatever other faces there are."""
    return is_name(name) and 0 <= rank <= HIGHEST_RANK and are_signs_of_face(signs)


def is_name(name):
    """Tell whether the text is one to eight small letters."""
    return 1 <= len(name) <= LONGEST_NAME and all(letter in SMALL_LETTERS for letter in name)


def are_signs_of_face(signs):
    """Tell whether these are none to 100 signs that rise."""
    return len(signs) <= MOST_SIGNS and all(is_sign(sign) for sign in signs) and is_rising(signs)


def is_rising(numbers):
    """Tell whether each number is above the one ahead of it."""
    return all(low < high for low, high in zip(numbers, numbers[1:]))
