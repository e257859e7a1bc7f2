"""Edits of texts, and cursors that they move (points [84] and [85])."""


def edits_of(old, new):
    """Return the edits (at, count, signs) from an old line to a new one, at positions of the old text, ascending."""
    edits = []
    at = 0
    # Both lines have the same kept places, so what is gone and what came between them go in pairs.
    for gone, came in zip(gaps_in(old, new), gaps_in(new, old)):
        if gone != "" or came != "":
            edits.append((at, len(gone), came))
        at += len(gone) + 1
    return edits


def gaps_in(line, other):
    """Return the texts ahead of, between and behind those places of a line that another one has, too."""
    kept = {dot: True for dot, _ in other}
    gaps = [""]
    for dot, sign in line:
        if dot in kept:
            gaps.append("")
        else:
            gaps[-1] += sign
    return gaps


def apply_edits(edits, text):
    """Return a text behind all edits."""
    parts = []
    done = 0
    for at, count, signs in edits:
        parts.append(text[done:at] + signs)
        done = at + count
    return "".join(parts) + text[done:]


def moved(edits, cursor):
    """Return the position of a cursor in the new text."""
    shift = 0
    for at, count, signs in edits:
        if cursor <= at + count:
            # Within the edit its sign is gone. The one ahead of the edit stays, or the text begins there.
            return min(cursor, at) + shift
        shift += len(signs) - count
    return cursor + shift
