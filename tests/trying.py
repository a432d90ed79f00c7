"""What the document asks for, found by trying all there is: the program is held against it over short texts."""

import itertools

# Faces by which rows differ in each of their qualities: changes, ranks, the first of several, clusters without choice.
SIGHTS = {
    "two halves": [("a", 0, (1, 2, 3)), ("b", 5, (3, 4, 900))],
    "a dear one for all": [("a", 1, (1, 2)), ("b", 1, (3, 4)), ("c", 9, (1, 2, 3, 4, 900))],
    "like ranks": [("a", 2, (1, 2, 900)), ("b", 2, (2, 3, 900)), ("c", 2, (1, 3, 4))],
    "the later one is nearer": [("a", 3, (1, 2, 3, 4)), ("b", 0, (1, 3, 900)), ("c", 0, (2, 3, 900))],
    "parted signs": [("a", 1, (1, 3, 4)), ("b", 0, (2, 900)), ("c", 4, (1, 2))],
    "no signs": [("a", 0, ()), ("b", 0, (2,))],
    "no faces": [],
}
ALPHABET = (1, 2, 3, 4, 900)


def texts(longest, alphabet=ALPHABET):
    """Tell all texts of none to that many of the signs."""
    return [list(text) for many in range(longest + 1) for text in itertools.product(alphabet, repeat=many)]


class Numbers:
    """Numbers that look thrown, the same ones in each run."""

    def __init__(self, seed):
        self.seed = seed

    def below(self, bound):
        self.seed = (self.seed * 6364136223846793005 + 1442695040888963407) % 2**64
        return (self.seed >> 33) % bound

    def one_of(self, things):
        return things[self.below(len(things))]

    def faces(self, many, alphabet):
        """Tell that many faces that have about half of the signs."""
        return [
            ("abcdefgh"[number], self.below(10), tuple(sign for sign in sorted(alphabet) if self.below(2)))
            for number in range(many)
        ]

    def text(self, many, alphabet):
        return [self.one_of(alphabet) for _ in range(many)]


def spans(text):
    """Tell the clusters as (begin, end)."""
    begins = [place for place, sign in enumerate(text) if sign < 800 or place == 0]
    return list(zip(begins, begins[1:] + [len(text)]))


def choices_of(faces, text):
    return [
        [number for number, (_, _, signs) in enumerate(faces) if set(text[begin:end]) <= set(signs)]
        for begin, end in spans(text)
    ]


def all_rows(faces, text):
    """Tell all rows by which a text may be shown."""
    return [list(row) for row in itertools.product(*[found or [None] for found in choices_of(faces, text)])]


def unlike(row):
    return sum(row[place] != row[place + 1] for place in range(len(row) - 1))


def rank_of(faces, row):
    return sum(faces[face][1] for face in row if face is not None)


def best_row(faces, text):
    """Tell the row of point 5."""
    return min(all_rows(faces, text), key=lambda row: (unlike(row), rank_of(faces, row), row))


def is_torn(faces, text, first, last):
    """Tell of clusters within the text whether they are torn, by the words of point 6."""
    stretch = choices_of(faces, text)[first:last + 1]
    return any(stretch) and not any(all(face in found for found in stretch) for face in range(len(faces)))


def behind(faces, text, row, change):
    """Tell the faces and the text behind a change, and for each cluster that stood the face that it had, if any."""
    if change[0] == "goes":
        bared = [
            (name, rank, () if number == change[1] else signs) for number, (name, rank, signs) in enumerate(faces)
        ]
        return bared, list(text), list(row)
    _, begin, end, signs = change
    changed = text[:begin] + signs + text[end:]
    shift = len(changed) - len(text)
    had = []
    for new_begin, new_end in spans(changed):
        stood = [
            face
            for (old_begin, old_end), face in zip(spans(text), row)
            if (all(place < begin for place in range(old_begin, old_end)) and (old_begin, old_end) == (new_begin, new_end))
            or (
                all(place >= end for place in range(old_begin, old_end))
                and (old_begin + shift, old_end + shift) == (new_begin, new_end)
            )
        ]
        had.append(stood[0] if stood else None)
    return faces, changed, had


def moved(row, had):
    """Tell how many clusters that stood have another face than they had."""
    return sum(None not in (face, before) and face != before for face, before in zip(row, had))


def best_mended(faces, text, row, change):
    """Tell the faces, the text and the row of point 9."""
    faces, text, had = behind(faces, text, row, change)
    best = min(all_rows(faces, text), key=lambda row: (unlike(row), moved(row, had), rank_of(faces, row), row))
    return faces, text, best


def all_changes(faces, text, put):
    """Tell each change "goes", and each "put" of these lists of signs at each place."""
    places = range(len(text) + 1)
    return [("goes", face) for face in range(len(faces))] + [
        ("put", begin, end, list(signs)) for begin in places for end in places if begin <= end for signs in put
    ]
