"""Tables of costs: the least number of events on the way from one state to another."""

# Much more than any number of events, for ways that are not there.
NEVER = 10 ** 60


def joined(one, other):
    """The costs of the ways of one table, each with a way of the other one behind it."""
    columns = list(zip(*other))
    return [[least([a + b for a, b in zip(row, column)]) for column in columns] for row in one]


def least(costs):
    """The least one of some costs."""
    return min([NEVER, *costs])


def behind(row, table):
    """The costs of all states, behind a way of the table."""
    return [least([a + b for a, b in zip(row, column)]) for column in zip(*table)]


def ahead(table, column):
    """The costs from all states on, ahead of a way of the table."""
    return [least([a + b for a, b in zip(row, column)]) for row in table]
