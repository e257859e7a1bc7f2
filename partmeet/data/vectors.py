"""Sites, dots and vectors (point [14])."""

from partmeet.data.keys import is_whole

SITES = 8
NO_VECTOR = (0, 0, 0, 0, 0, 0, 0, 0)


def is_site(data):
    """Return True if data is the number of a site."""
    return is_whole(data) and 0 <= data < SITES


def is_dot(data):
    """Return True if data is a dot."""
    return isinstance(data, tuple) and len(data) == 2 and is_site(data[0]) and is_whole(data[1]) and data[1] >= 1


def is_vector(data):
    """Return True if data is a vector."""
    if not isinstance(data, tuple) or len(data) != SITES:
        return False
    return all([is_whole(number) and number >= 0 for number in data])


def knows(vector, dot):
    """Return True if the vector has the dot."""
    site, n = dot
    # A site that is none is known by nobody; without this test -1 would read the last number.
    return 0 <= site < len(vector) and vector[site] >= n


def covers(vector, other):
    """Return True if no number of the vector is less than the other's there."""
    return all([number >= least_wanted for number, least_wanted in zip(vector, other)])


def joined(vector, other):
    """Return the join of two vectors."""
    return tuple([max(pair) for pair in zip(vector, other)])


def least(vectors):
    """Return the least of the vectors of a list of one or more."""
    found = vectors[0]
    for vector in vectors:
        found = tuple([min(pair) for pair in zip(found, vector)])
    return found


def raised(vector, dot):
    """Return the vector with the number of the dot for the site of the dot."""
    site, n = dot
    return tuple([n if at == site else number for at, number in enumerate(vector)])
