"""The folk of a chain: whoever goes joins the one who would rise if a chair were removed."""

from fewchairs.checks import check_unlike
from fewchairs.crowds import minus
from fewchairs.errors import NoChair
from fewchairs.folks import Folk


def chain_folk(chain, chairs):
    """The folk of the chain with so many chairs."""
    check_unlike(chain.rules[0].house)
    if not 2 <= chairs <= chain.most_chairs:
        raise NoChair(chairs)
    rule = chain[chairs]
    fewer = chain[chairs - 1]
    return Folk(rule.custom, [minus(rule.end(meeting), fewer.end(meeting)).index(1)
                              for meeting in rule.house.meetings()])
