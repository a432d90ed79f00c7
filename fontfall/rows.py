"""Rows: what they may tell of a cluster, and which of all rows is the least."""


def tellable(faces):
    """Tell what a row may tell of a cluster with these choices."""
    return faces or [None]


def least_row(choices, ranks, had):
    """Tell the row that these choices of clusters allow with the fewest changes.

    Of several it is the one that moves the fewest clusters, of several the one with the least ranks, of several the
    first. had tells for each cluster the face that it is moved from, or None if it is moved from none.
    """
    # One row for each face that its last cluster may have: rows that end alike are gone on with alike, so the least
    # of them stays the least of them.
    least = [(0, 0, 0, [])]
    for faces, face_had in zip(choices, had):
        least = [least_longer(least, face, face_had, ranks) for face in tellable(faces)]
    return min(least)[3]


def least_longer(least, face, face_had, ranks):
    """Tell the least of these rows with one cluster more."""
    # No two of them tell a number and None of the same cluster, so that the rows themselves can be compared.
    return min([longer(ahead, face, face_had, ranks) for ahead in least])


def longer(ahead, face, face_had, ranks):
    """Tell the changes, the moved clusters, the ranks and the faces of a row with one cluster more."""
    changed, moved, ranked, row = ahead
    if row and row[-1] != face:
        changed += 1
    if face is not None:
        ranked += ranks[face]
        if face_had is not None and face_had != face:
            moved += 1
    return (changed, moved, ranked, row + [face])
