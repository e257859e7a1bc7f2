"""Whether data are those of what a site knows of others (point [49])."""

from partmeet.data.events import is_row_of_sites
from partmeet.data.keys import is_whole
from partmeet.data.vectors import SITES, is_dot, is_vector


def is_knowing_data(data):
    """Return True if data are those of what a site knows."""
    if not isinstance(data, tuple) or len(data) != 9:
        return False
    number, size, present, coming, told, retiring, over, acks, absent = data
    if not is_whole(size) or not 1 <= size <= SITES or not is_site_of_plan(number, size):
        return False
    if not all([is_row_of_plan(sites, size) for sites in (present, retiring, over)]) or len(present) == 0:
        return False
    if not is_coming(coming, size) or any([site in present for site, admit in coming]):
        return False
    if not is_row_of_vectors(told, size):
        return False
    return is_row_of_rows(acks, size) and is_row_of_rows(absent, size)


def is_site_of_plan(data, size):
    """Return True if data is a site of a plan of this size."""
    return is_whole(data) and 0 <= data < size


def is_row_of_plan(data, size):
    """Return True if data is a tuple of sites of the plan, ascending."""
    return is_row_of_sites(data) and all([site < size for site in data])


def is_coming(data, size):
    """Return True if data is a tuple of pairs (site, admit), sites ascending."""
    if not isinstance(data, tuple) or not all([isinstance(row, tuple) and len(row) == 2 for row in data]):
        return False
    if not is_row_of_plan(tuple([site for site, admit in data]), size):
        return False
    return all([is_dot(admit) and admit[0] < size for site, admit in data])


def is_row_of_vectors(data, size):
    """Return True if data is a tuple of one vector for each site of the plan."""
    return isinstance(data, tuple) and len(data) == size and all([is_vector(vector) for vector in data])


def is_row_of_rows(data, size):
    """Return True if data is a tuple that has for each site of the plan a tuple of sites, ascending."""
    return isinstance(data, tuple) and len(data) == size and all([is_row_of_plan(sites, size) for sites in data])
