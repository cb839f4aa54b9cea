"""Slow and plain ways to what the program tells, to hold it against."""

from itertools import combinations


def all_rows(parts, number):
    """All rows that come to a number, gone through one by one."""
    if number == 0:
        return [()]
    rows = []
    for part in parts:
        if part <= number:
            rows += [(part,) + rest for rest in all_rows(parts, number - part)]
    return rows


def all_parts(greatest):
    """All parts of numbers from 1 to the greatest."""
    numbers = range(1, greatest + 1)
    return [parts for many in numbers for parts in combinations(numbers, many)]


def counts_by_many_parts(parts, number):
    """How many rows come to each number to the told one, added up by how many parts they have."""
    totals = [0] * (number + 1)
    having = {0: 1}
    while having:
        longer = {}
        for reached, count in having.items():
            totals[reached] += count
            for part in parts:
                if reached + part <= number:
                    longer[reached + part] = longer.get(reached + part, 0) + count
        having = longer
    return tuple(totals)


def rests_one_by_one(parts, number, divisor):
    """The rest of the count of a number, through all numbers below."""
    rests = [1 % divisor]
    for reached in range(1, number + 1):
        rests.append(sum(rests[reached - part] for part in parts if part <= reached) % divisor)
    return rests[number]


def times(left, right, divisor):
    columns = list(zip(*right))
    return [[sum(a * b for a, b in zip(row, column)) % divisor for column in columns] for row in left]


def rest_by_matrix(parts, number, divisor):
    """The rest of the count of a great number, by powers of the matrix that steps to the next count."""
    size = max(parts)
    step = [[1 if at + 1 in parts else 0 for at in range(size)]]
    step += [[1 if at == row else 0 for at in range(size)] for row in range(size - 1)]
    state = [[1]] + [[0]] * (size - 1)
    while number:
        if number % 2:
            state = times(step, state, divisor)
        step = times(step, step, divisor)
        number //= 2
    return state[0][0] % divisor
