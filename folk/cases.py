"""Cases: blocks, weighted pairs of them and aparts; what groupings of them lose, and their parts."""

from folk.chains import joined


def keeps(aparts, grouping):
    return all([grouping[i] != grouping[j] for i, j in aparts])


def loss_of(pairs, grouping):
    loss = 0
    for i, j, weight in pairs:
        is_held = grouping[i] == grouping[j]
        if is_held != (weight > 0):
            loss = loss + abs(weight)
    return loss


def parts_of(many, pairs, aparts):
    links = [(i, j) for i, j, weight in pairs if weight > 0 and (i, j) not in aparts]
    return joined(list(range(many)), links)


def case_of(part, pairs, aparts):
    numbers = {}
    for number, block in enumerate(part):
        numbers[block] = number
    inner_pairs = [(numbers[i], numbers[j], weight) for i, j, weight in pairs if i in numbers and j in numbers]
    inner_aparts = [(numbers[i], numbers[j]) for i, j in aparts if i in numbers and j in numbers]
    return (len(part), inner_pairs, inner_aparts)
