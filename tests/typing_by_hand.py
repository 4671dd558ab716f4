"""What the document says of keys, sign by sign on lists, and lists of keys to try things at."""

from random import Random


def press(row, at, keys):
    """The list of items and the cursor behind keys, gone through one sign at a time."""
    row = list(row)
    for key in keys:
        if key[0] == "first":
            at = 0
        elif key[0] == "last":
            at = len(row)
        elif key[0] == "write":
            for sign in key[1]:
                row.insert(at, sign)
                at += 1
        else:
            for _ in range(key[1]):
                if key[0] == "left" and at > 0:
                    at -= 1
                elif key[0] == "right" and at < len(row):
                    at += 1
                elif key[0] == "rub" and at > 0:
                    at -= 1
                    del row[at]
                elif key[0] == "cut" and at < len(row):
                    del row[at]
    return row, at


def text_behind(text, at, keys):
    row, at = press(text, at, keys)
    return "".join(row), at


def sum_of(keys):
    return sum(key[1] for key in keys if isinstance(key[-1], int))


def differ(one, other, size, at):
    return press(range(size), at, one) != press(range(size), at, other)


def least_unlike(one, other, sizes):
    """The least size, of so many, at which two lists of keys part at some cursor, or None."""
    for size in range(sizes):
        if any(differ(one, other, size, at) for at in range(size + 1)):
            return size
    return None


def random_keys(chance, many, most=3, words=("left", "right", "rub", "cut", "first", "last", "write"), longest=2):
    found = []
    for _ in range(many):
        word = chance.choice(words)
        if word in ("first", "last"):
            found.append((word,))
        elif word == "write":
            found.append((word, "".join(chance.choice("ab") for _ in range(chance.randint(1, longest)))))
        else:
            found.append((word, chance.randint(1, most)))
    return found


def many_keys(seed, times, most=3, longest=4):
    chance = Random(seed)
    return [random_keys(chance, chance.randint(0, longest), most) for _ in range(times)]
