"""The written form of trees, a line for each part in preorder, and reading it."""

from sumgrove.errors import InvalidText
from sumgrove.trees import are_sides, is_valid_cut, is_valid_leaf

DIGITS = "0123456789"
MOST_DIGITS = 25
FIRST_WORDS = ("empty", "branch", "leaf", "cut")
NO_NOTES = "-"


def write_tree(tree):
    """Return the written form of a well-formed tree."""
    return "\n".join(lines_of(tree))


def lines_of(tree):
    """Return the lines of the written form of a tree."""
    if tree is None:
        return ["empty"]
    if tree[0] == "branch":
        return ["branch"] + lines_of(tree[1]) + lines_of(tree[2])
    if tree[0] == "leaf":
        _, name, worths, notes = tree
        return [" ".join(["leaf", name, write_numbers(worths), write_numbers(notes) if notes else NO_NOTES])]
    seal, count, sums, least, greatest = tree[1]
    return [" ".join(["cut", str(seal), str(count), write_numbers(sums), least, greatest])]


def write_numbers(numbers):
    """Return the word that writes integers."""
    return ",".join([str(number) for number in numbers])


def read_tree(sealer, text):
    """Return the tree that a text writes. Raise InvalidText."""
    return assemble(read_parts(sealer.modulus(), text.split("\n")))


def read_parts(modulus, lines):
    """Return the parts that lines write, one for each line, a branch as ("branch",). Raise InvalidText."""
    parts = []
    kinds = None
    missing = 1
    for number, line in enumerate(lines, start=1):
        if missing == 0:
            raise InvalidText(number, "end")
        part = read_part(modulus, line, number)
        told = kinds_of(part)
        if kinds is None:
            kinds = told
        elif told is not None and told != kinds:
            raise InvalidText(number, "kinds")
        missing += 1 if part[0] == "branch" else -1
        parts.append(part)
    if missing > 0:
        raise InvalidText(len(lines) + 1, "missing")
    return parts


def read_part(modulus, line, number):
    """Return the part that the line of a number writes. Raise InvalidText."""
    word = line.partition(" ")[0]
    if word not in FIRST_WORDS or word == "empty" and number > 1:
        raise InvalidText(number, "word")
    part = part_of(line.split(" "))
    if part is None:
        raise InvalidText(number, "form")
    if word == "leaf" and not is_valid_leaf(part) or word == "cut" and not is_valid_cut(modulus, part):
        raise InvalidText(number, word)
    return part


def part_of(words):
    """Return the part that the words of a line write, or None if they have not the form of a part."""
    if words[0] == "leaf":
        return leaf_of(words)
    if words[0] == "cut":
        return cut_of_words(words)
    return (words[0],) if len(words) == 1 else None


def leaf_of(words):
    """Return the leaf that words write, or None if they have not the form of a leaf."""
    if len(words) != 4 or "" in words:
        return None
    _, name, worths_word, notes_word = words
    worths = read_numbers(worths_word)
    notes = () if notes_word == NO_NOTES else read_numbers(notes_word)
    if worths is None or notes is None:
        return None
    return ("leaf", name, worths, notes)


def cut_of_words(words):
    """Return the cut that words write, or None if they have not the form of a cut."""
    if len(words) != 6 or "" in words:
        return None
    _, seal_word, count_word, sums_word, least, greatest = words
    sums = read_numbers(sums_word)
    if sums is None or not is_written_number(seal_word) or not is_written_number(count_word):
        return None
    return ("cut", (int(seal_word), int(count_word), sums, least, greatest))


def read_numbers(word):
    """Return the integers that a word writes, at least one, or None if it writes none."""
    written = word.split(",")
    if not all([is_written_number(one) for one in written]):
        return None
    return tuple([int(one) for one in written])


def is_written_number(text, most_digits=MOST_DIGITS):
    """Return True if a text writes an integer in so many digits at most and without a leading zero, otherwise False."""
    return (
        1 <= len(text) <= most_digits
        and all([character in DIGITS for character in text])
        and (text == "0" or text[0] != "0")
    )


def kinds_of(part):
    """Return the number of worths or sums of a part, or None if it tells none."""
    if part[0] == "leaf":
        return len(part[2])
    return len(part[1][2]) if part[0] == "cut" else None


def assemble(parts):
    """Return the tree of parts in preorder, in which branches have no sides yet. Raise InvalidText."""
    # From the back both sides of a branch are there before it, and no depth of the text needs recursion.
    waiting = []
    unordered = None
    for number in range(len(parts), 0, -1):
        part = parts[number - 1]
        if part[0] == "branch":
            left, left_names = waiting.pop()
            right, right_names = waiting.pop()
            if not are_sides(left_names, right_names):
                unordered = number
            waiting.append((("branch", left, right), (left_names[0], right_names[1])))
        else:
            waiting.append((part, names_of(part)))
    if unordered is not None:
        raise InvalidText(unordered, "order")
    tree = waiting[0][0]
    return None if tree[0] == "empty" else tree


def names_of(part):
    """Return the least and the greatest name of a leaf or a cut; the empty tree has none."""
    if part[0] == "leaf":
        return (part[1], part[1])
    return part[1][3:] if part[0] == "cut" else None
