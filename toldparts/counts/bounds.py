"""How many rows come to a number within bounds."""


def counts_by_many(parts, number):
    """How many rows come to a number with 0 parts, 1 part and so on, to the most that any has."""
    tallies = [[1]]
    for reached in range(1, number + 1):
        # A row without its last part is any row that comes to the rest, with one part less.
        before = [tallies[reached - part] for part in parts if part <= reached]
        tally = [0] * max([len(shorter) + 1 for shorter in before if shorter], default=0)
        for shorter in before:
            for many, count in enumerate(shorter):
                tally[many + 1] += count
        tallies.append(tally)
    return tuple(tallies[number])


def count_with(parts, number, many):
    """How many rows come to a number with just so many parts."""
    tally = counts_by_many(parts, number)
    return tally[many] if 0 <= many < len(tally) else 0


def choices_to(many):
    """For each number from 0 to the told one, in how many ways 0, 1 and so on of so many places are chosen."""
    choices = [[1]]
    for step in range(many):
        last = choices[step]
        choices.append([1] + [last[at] + last[at + 1] for at in range(step)] + [1])
    return choices


def count_bounded(parts, number, bounds):
    """How many rows come to a number in which each part comes at most so often as its bound."""
    choices = choices_to(number)
    # How many rows there are of the parts gone through, by how many parts they have and what they come to.
    counts = {(0, 0): 1}
    # Great parts first: they make few rows, and so few steps.
    for part, bound in reversed(list(zip(parts, bounds))):
        wider = {}
        for (many, reached), count in counts.items():
            for often in range(min(bound, (number - reached) // part) + 1):
                key = (many + often, reached + often * part)
                # The part takes any places of the longer row, the others keep their order.
                wider[key] = wider.get(key, 0) + count * choices[many + often][often]
        counts = wider
    return sum([count for (many, reached), count in counts.items() if reached == number])


def count_apart(parts, number):
    """How many rows come to a number in which no two neighbours are alike."""
    counts = [1]
    # For each part, how many of the rows that come to each number end with it.
    ending = {part: [0] for part in parts}
    for reached in range(1, number + 1):
        for part in parts:
            # Behind itself a part does not stand.
            rest = reached - part
            ending[part].append(counts[rest] - ending[part][rest] if rest >= 0 else 0)
        counts.append(sum([ending[part][reached] for part in parts]))
    return counts[number]
