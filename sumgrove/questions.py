"""Questions about the leaves of a tree, and their answers."""

from sumgrove.errors import NotShown
from sumgrove.trees import add_sums, count_of, greatest_of, least_of, spans, sums_of

# The answers for the empty tree that are not None.
EMPTY_ANSWERS = {"count": 0, "range": (0, None), "rank": 0}


def ask(sealer, tree, question):
    """Return the answer to a question about a well-formed tree. Raise NotShown."""
    if question[0] == "several":
        return tuple([ask(sealer, tree, ("leaf", name)) for name in question[1]])
    if tree is None:
        return EMPTY_ANSWERS.get(question[0])
    return ask_part(tree, question)


def ask_part(part, question):
    """Return the answer of a part to a question other than "several". Raise NotShown."""
    known = told(part, question)
    if known is not None:
        return known[0]
    if part[0] == "cut":
        raise NotShown(least_of(part))
    if part[0] == "leaf":
        return (part[2], part[3])
    asked = questions_for_sides(part, question)
    answers = [ask_part(side, one) for side, one in zip(part[1:], asked) if one is not None]
    return join_answers(question[0], answers)


def told(part, question):
    """Return (answer,) if the summary of a part tells all that a question needs, or None."""
    word = question[0]
    if word == "count":
        return (count_of(part),)
    if word == "total":
        return (sums_of(part),)
    if word == "range":
        return told_of_range(part, question[1], question[2])
    if word == "place":
        return told_of_place(part, question[1])
    return told_of_name(part, word, question[1])


def told_of_range(part, low, high):
    """Return what a summary tells of the leaves from low to high."""
    least = least_of(part)
    greatest = greatest_of(part)
    if low > high or greatest < low or least > high:
        return ((0, None),)
    if low <= least and greatest <= high:
        return ((count_of(part), sums_of(part)),)
    return None


def told_of_place(part, place):
    """Return what a summary tells of the name with so many lesser names in the part."""
    last = count_of(part) - 1
    if place == 0:
        return (least_of(part),)
    if place == last:
        return (greatest_of(part),)
    return (None,) if place < 0 or place > last else None


def told_of_name(part, word, name):
    """Return what a summary tells for "leaf", "rank" and "next"."""
    least = least_of(part)
    greatest = greatest_of(part)
    if word == "leaf":
        return None if least <= name <= greatest else (None,)
    if word == "rank":
        if name <= least:
            return (0,)
        return (count_of(part),) if name > greatest else None
    if name < least:
        return (least,)
    return (None,) if name >= greatest else None


def questions_for_sides(branch, question):
    """Return the questions for the left and the right side, None for a side that is not looked at."""
    _, left, right = branch
    if question[0] == "leaf":
        return tuple([question if spans(side, question[1]) else None for side in (left, right)])
    if question[0] == "next":
        return (question, None) if question[1] < greatest_of(left) else (None, question)
    if question[0] == "place":
        rest = question[1] - count_of(left)
        return (question, None) if rest < 0 else (None, ("place", rest))
    return (question, question)


def join_answers(word, answers):
    """Return the answer of a branch from the answers of the sides that were looked at."""
    if word == "rank":
        return sum(answers)
    if word == "range":
        return join_ranges(answers[0], answers[1])
    return answers[0] if answers else None


def join_ranges(left, right):
    """Return (count, sums) of two sides together."""
    if left[1] is None:
        return right
    if right[1] is None:
        return left
    return (left[0] + right[0], add_sums(left[1], right[1]))
