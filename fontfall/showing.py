"""How a text is shown: the choices of its clusters, the row, and the runs."""

from fontfall.clusters import bounds, parted, refuse_no_text
from fontfall.rows import least_row


def choices(case, text):
    """Tell for each cluster the faces that have all its signs, rising."""
    return [having_faces(case.faces(), cluster) for cluster in parted(text)]


def missing(case, text):
    """Tell the signs of a text that no face has, each once, rising."""
    refuse_no_text(text)
    faces = case.faces()
    return sorted({sign for sign in text if not having_faces(faces, (sign,))})


def shown(case, text):
    """Tell the row with the fewest changes, of several the one with the least ranks, of several the first."""
    faces_of = choices(case, text)
    ranks = [rank for _, rank, _ in case.faces()]
    return least_row(faces_of, ranks, [None] * len(faces_of))


def changes(row):
    """Tell how many neighbours in a row are unlike."""
    return len([face for ahead, face in zip(row, row[1:]) if ahead != face])


def runs(case, text):
    """Tell the neighbours that are shown alike: tuples (begin, end, face), as few as there can be."""
    told = []
    for (begin, end), face in zip(bounds(text), shown(case, text)):
        if told and told[-1][2] == face:
            told[-1] = (told[-1][0], end, face)
        else:
            told.append((begin, end, face))
    return told


def having_faces(faces, cluster):
    """Tell the numbers of the faces that have all these signs, rising."""
    return [number for number, (_, _, signs) in enumerate(faces) if all(sign in signs for sign in cluster)]
