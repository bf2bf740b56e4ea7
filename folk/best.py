"""The best grouping of a case."""

from folk.cases import case_of, keeps, loss_of, parts_of
from folk.errors import TooMany

MOST_BLOCKS = 7


def groupings_of(many):
    groupings = [[]]
    for block in range(many):
        longer = []
        for grouping in groupings:
            for group in range(max(grouping, default=-1) + 2):
                longer.append(grouping + [group])
        groupings = longer
    return groupings


def best_in_part(case):
    kept = [grouping for grouping in groupings_of(case[0]) if keeps(case[2], grouping)]
    return min(kept, key=lambda grouping: (loss_of(case[1], grouping), -max(grouping), grouping))


def numbered_anew(labels):
    numbers = {}
    grouping = []
    for label in labels:
        if label not in numbers:
            numbers[label] = len(numbers)
        grouping.append(numbers[label])
    return grouping


def best_of(many, pairs, aparts):
    parts = parts_of(many, pairs, aparts)
    for part in parts:
        if len(part) > MOST_BLOCKS:
            raise TooMany(len(part))
    labels = {}
    for place, part in enumerate(parts):
        groups = best_in_part(case_of(part, pairs, aparts))
        for block, group in zip(part, groups):
            labels[block] = (place, group)
    grouping = numbered_anew([labels[block] for block in range(many)])
    return (loss_of(pairs, grouping), grouping)
