"""Why fewer changes don't do: stretches that no face shows whole."""

from fontfall.showing import choices


def reason(case, text):
    """Tell torn stretches (first, last) without neighbours in common, as many as the row of shown has changes."""
    faces_of = choices(case, text)
    stretches = []
    first = 0
    for last in range(len(faces_of)):
        # Each is taken as short as can be: what is ahead of its last cluster can be shown alike, so that a row with
        # one change for each stretch is possible.
        if is_torn(faces_of[first:last + 1]):
            stretches.append((first, last))
            first = last
    return stretches


def holds(case, text, stretches):
    """Tell whether all these stretches are torn, stand in order, and have no neighbours in common."""
    faces_of = choices(case, text)
    last_ahead = 0
    for first, last in stretches:
        if not last_ahead <= first <= last < len(faces_of):
            return False
        if not is_torn(faces_of[first:last + 1]):
            return False
        last_ahead = last
    return True


def is_torn(stretch):
    """Tell of a stretch's choices whether some cluster has any, but no face is a choice of all."""
    shared = [face for face in stretch[0] if all(face in faces for faces in stretch)]
    return any(stretch) and not shared
