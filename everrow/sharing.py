"""Columns, or rows, shared out among parts of some weights one by one ([210], [211]).

Each one goes to the first part whose weight, divided by one more than it has, is greatest. So when each part has as
many times its weight as each other one, all begins anew: what a part has is so much more behind each such turn.
"""


def shared(weights, size):
    """The list of how many each part has when so many are shared out."""
    turns = size // sum(weights)
    found = [weight * turns for weight in weights]
    left = size - sum(found)
    for _ in range(left):
        taker = 0
        for part in range(1, len(weights)):
            # Weights divided by numbers are held against each other without dividing.
            if weights[part] * (found[taker] + 1) > weights[taker] * (found[part] + 1):
                taker = part
        found[taker] += 1
    return found


def least_shared(weights, part, wish):
    """How many have to be shared out until a part has as many as it wishes."""
    if wish == 0:
        return 0
    total = wish
    for other, weight in enumerate(weights):
        # Whatever number of another part comes ahead of the wished one: as good ones, too, if that part stands ahead.
        if other < part:
            total += weight * wish // weights[part]
        elif other > part:
            total += (weight * wish - 1) // weights[part]
    return total
