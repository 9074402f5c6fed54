"""Certificates that a custom is order-free, or that it is not."""

from fewchairs.crowds import kinds_in, one_less, row_of, size
from fewchairs.look import first_fault, given_up
from fewchairs.runs import left


def judge(custom):
    """A certificate about the custom that holds."""
    group = first_fault(custom)
    if group is None:
        return ("free", _looks(custom))
    return _bound(custom, group)


def holds(custom, certificate):
    """Whether the certificate about the custom holds."""
    if len(certificate) == 2 and certificate[0] == "free":
        return first_fault(custom) is None and certificate[1] == _looks(custom)
    if len(certificate) == 6 and certificate[0] == "bound":
        return _holds_bound(custom, certificate[1], certificate[2:4], certificate[4:])
    return False


def group_rows(group):
    """The list of the rows for each kind in the group: the others ascending, and then one guest of the kind."""
    return [row_of(one_less(group, kind)) + [kind] for kind in kinds_in(group)]


def is_row_of(row, crowd):
    """Whether the row has just the guests of the crowd."""
    return (len(row) == size(crowd)
            and all([row.count(kind) == count for kind, count in enumerate(crowd)]))


def _looks(custom):
    """The list of the pairs of each group and the chairs given up in it."""
    return [(group, given_up(custom, group)) for group in custom.house.groups()]


def _bound(custom, group):
    """The certificate of two rows of a group at which the custom does not pass the look."""
    rows = group_rows(group)
    first_end = left(custom, rows[0])
    # Rows of such a group never leave all the same crowd, so that there is a second row.
    second = [row for row in rows if left(custom, row) != first_end][0]
    return ("bound", group, rows[0], second, first_end, left(custom, second))


def _holds_bound(custom, crowd, rows, ends):
    """Whether the rows are rows of the crowd and leave the two ends, which differ."""
    if not custom.house.has(crowd) or ends[0] == ends[1]:
        return False
    # The rows are looked at before they run: a run may raise errors.
    if not all([is_row_of(row, crowd) for row in rows]):
        return False
    return all([left(custom, row) == end for row, end in zip(rows, ends)])
