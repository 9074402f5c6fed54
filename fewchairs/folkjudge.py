"""Certificates that folk are order-free, or that they are not."""

from fewchairs.errors import NotFree
from fewchairs.judge import group_rows, is_row_of


def folk_judge(folk):
    """A certificate about the folk that holds."""
    partings = []
    for group in folk.custom.house.groups():
        rows = group_rows(group)
        found = [folk.parting(row) for row in rows]
        for row, parting in zip(rows, found):
            if parting != found[0]:
                return ("bound", group, rows[0], row, found[0], parting)
        partings.append((group, found[0]))
    return ("free", partings)


def folk_holds(folk, certificate):
    """Whether the certificate about the folk holds."""
    if len(certificate) == 2 and certificate[0] == "free":
        return folk_judge(folk) == certificate
    if len(certificate) == 6 and certificate[0] == "bound":
        return _holds_bound(folk, certificate[1], certificate[2:4], certificate[4:])
    return False


def folk_end(folk, people):
    """The parting to which all rows of the people lead."""
    certificate = folk_judge(folk)
    if certificate[0] == "bound":
        raise NotFree(certificate[1])
    return folk.parting(people)


def _holds_bound(folk, crowd, rows, partings):
    """Whether the rows are rows of the crowd and lead to the two partings, which differ."""
    if not folk.custom.house.has(crowd) or partings[0] == partings[1]:
        return False
    # The rows are looked at before they run: a run may raise errors.
    if not all([is_row_of(row, crowd) for row in rows]):
        return False
    return all([folk.parting(row) == parting for row, parting in zip(rows, partings)])
