"""Papers that show the loss of the best grouping of a case."""

from folk.best import MOST_BLOCKS, best_of
from folk.cases import loss_of
from folk.errors import TooMany

# A paper places block by block. A block is asked, by a case each, whether it goes with
# the first block of each group, in the groups' order, until it is held or stands alone.
# What is lost then but was not asked follows from what was: a ring each shows it.


def placed_pairs(case, grouping):
    return [pair for pair in case[1] if pair[1] < len(grouping)]


def is_decided(case, grouping, i, j):
    was_asked = grouping.index(grouping[i]) == i and grouping[i] <= grouping[j]
    return was_asked or (i, j) in case[2]


def ring_through(grouping, i, j):
    # All of it is decided by way of the first blocks, but the pair of i and j.
    first = grouping.index(grouping[i])
    other = grouping.index(grouping[j])
    if first == other:
        return [i, first, j]
    ahead = [] if first == i else [first]
    behind = [] if other == j else [other]
    return ahead + [i, j] + behind


def lost_rings(case, grouping):
    rings = []
    for i, j, weight in placed_pairs(case, grouping):
        is_lost = (grouping[i] == grouping[j]) != (weight > 0)
        if is_lost and not is_decided(case, grouping, i, j):
            rings.append((ring_through(grouping, i, j), abs(weight)))
    return rings


def placed_paper(case, grouping, least):
    if loss_of(placed_pairs(case, grouping), grouping) >= least:
        return ("rings", lost_rings(case, grouping))
    return asking_paper(case, grouping, 0, least)


def held_paper(case, grouping, group, least):
    block = len(grouping)
    for member, number in enumerate(grouping):
        if number == group and (member, block) in case[2]:
            return ("never", [member, grouping.index(group), block])
    return placed_paper(case, grouping + [group], least)


def asking_paper(case, grouping, group, least):
    # The next block is parted from all groups ahead of this one.
    if group > max(grouping, default=-1):
        return placed_paper(case, grouping + [group], least)
    first = grouping.index(group)
    block = len(grouping)
    parted = asking_paper(case, grouping, group + 1, least)
    if (first, block) in case[2]:
        return parted
    return ("case", first, block, held_paper(case, grouping, group, least), parted)


def paper_of(many, pairs, aparts):
    if many > MOST_BLOCKS:
        raise TooMany(many)
    least = best_of(many, pairs, aparts)[0]
    return placed_paper((many, pairs, aparts), [], least)
