"""The clusters of a text: each letter with the marks behind it."""

from fontfall.errors import BadSign
from fontfall.signs import is_letter, is_sign


def parted(text):
    """Tell the clusters of a text, tuples of signs, in order."""
    refuse_no_text(text)
    clusters = []
    for sign in text:
        # The first sign begins a cluster though it be a mark: marks ahead of all letters are one.
        if is_letter(sign) or not clusters:
            clusters.append([sign])
        else:
            clusters[-1].append(sign)
    return [tuple(cluster) for cluster in clusters]


def bounds(text):
    """Tell for each cluster of a text the place of its first sign and the place behind its last."""
    told = []
    end = 0
    for cluster in parted(text):
        begin = end
        end += len(cluster)
        told.append((begin, end))
    return told


def refuse_no_text(text):
    """Raise BadSign if a number of the text is no sign."""
    for place, number in enumerate(text):
        if not is_sign(number):
            raise BadSign(place)
