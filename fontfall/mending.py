"""Mending a row where a face goes, or a stretch of the text is another one."""

from fontfall.clusters import bounds
from fontfall.errors import BadChange, BadRow
from fontfall.faces import Case
from fontfall.rows import least_row, tellable
from fontfall.showing import choices
from fontfall.signs import is_sign


def mended(case, text, row, change):
    """Tell the case, the text and the row behind a change: (case, text, row)."""
    refuse_no_row(row, choices(case, text))
    if not is_change(change, case, text):
        raise BadChange()
    if change[0] == "goes":
        return behind_goes(case, text, row, change)
    return behind_put(case, text, row, change)


def refuse_no_row(row, faces_of):
    """Raise BadRow if the row does not tell what it may of each cluster."""
    for place, (face, faces) in enumerate(zip(row, faces_of)):
        if face not in tellable(faces):
            raise BadRow(place)
    if len(row) != len(faces_of):
        raise BadRow(min(len(row), len(faces_of)))


def is_change(change, case, text):
    """Tell whether the change is one of this case and text."""
    if len(change) == 2 and change[0] == "goes":
        return 0 <= change[1] < len(case.faces())
    if len(change) == 4 and change[0] == "put":
        _, begin, end, signs = change
        return 0 <= begin <= end <= len(text) and all(is_sign(sign) for sign in signs)
    return False


def behind_goes(case, text, row, change):
    """Tell what is behind a change ("goes", face)."""
    _, gone = change
    faces = case.faces()
    name, rank, _ = faces[gone]
    faces[gone] = (name, rank, ())
    return mended_row(Case(faces), list(text), row)


def behind_put(case, text, row, change):
    """Tell what is behind a change ("put", begin, end, signs)."""
    _, begin, end, signs = change
    changed_text = text[:begin] + signs + text[end:]
    had = {}
    for (first, behind), face in zip(bounds(text), row):
        if behind <= begin:
            had[(first, behind)] = face
        elif first >= end:
            # Told from the text's end, the places of what stands behind stay.
            moved = len(changed_text) - len(text)
            had[(first + moved, behind + moved)] = face
    stood = [had.get(places) for places in bounds(changed_text)]
    return mended_row(Case(case.faces()), changed_text, stood)


def mended_row(case, text, had):
    """Tell the case, the text and its row, mended from the face that each cluster had, or None."""
    ranks = [rank for _, rank, _ in case.faces()]
    return (case, text, least_row(choices(case, text), ranks, had))
