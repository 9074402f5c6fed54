"""The least changes that make a custom of two kinds order-free."""

from fewchairs.errors import BadCustom


def least_changes(answers):
    """The tuple (number, keep, pairs): the least number of changes, the least threshold, crossed pairs."""
    _check_answers(answers)
    numbers = _numbers_of_changes(answers)
    number = min(numbers)
    return (number, numbers.index(number), _crossed_pairs(answers))


def _check_answers(answers):
    """Raises BadCustom if the list is not a custom of two kinds."""
    last = len(answers) - 1
    if last < 2:
        raise BadCustom(len(answers))
    for at, answer in enumerate(answers):
        if answer not in (0, 1) or (at == 0 and answer == 0) or (at == last and answer == 1):
            raise BadCustom(at)


def _numbers_of_changes(answers):
    """The list of how many answers must be replaced to reach each threshold."""
    # For the threshold 0 every answer 1 but the first one is replaced.
    numbers = [answers.count(1) - 1]
    for answer in answers[1:-1]:
        numbers.append(numbers[-1] + (1 if answer == 0 else -1))
    return numbers


def _crossed_pairs(answers):
    """As many pairs of indexes as there can be, each with a 0 before a 1, no index in two of them."""
    waiting = []
    pairs = []
    for at, answer in enumerate(answers):
        if answer == 0:
            waiting.append(at)
        elif waiting:
            pairs.append((waiting.pop(), at))
    return pairs
