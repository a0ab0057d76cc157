"""The kind of an expression."""

from meetvalue.kinds import ANY, NOTHING, join, less, meet
from meetvalue.looking import part
from meetvalue.making import of_list, of_numbers, of_record, of_sort, of_text, of_truth


def kind_of(tree, root):
    word = tree[0]
    if word == "word":
        return kind_of_word(tree[1])
    if word == "span":
        return of_numbers(tree[1], tree[2])
    if word == "text":
        return of_text(tree[1])
    if word == "list":
        return of_list([kind_of(item, root) for item in tree[1]], tree[2])
    if word == "record":
        return of_record([(name, kind_of(inner, root), must) for name, inner, must in tree[1]], tree[2])
    if word == "place":
        return part(root, tree[1])
    if word == "not":
        return less(ANY, kind_of(tree[1], root))
    return together(meet if word == "and" else join, [kind_of(inner, root) for inner in tree[1]])


def kind_of_word(word):
    if word == "any":
        return ANY
    if word == "nothing":
        return NOTHING
    if word in ("yes", "no"):
        return of_truth(word == "yes")
    return of_sort(word)


# Neighbours first, then what came of them: so with many kinds most of the mixing is of small ones.
def together(mixing, kinds):
    left = list(kinds)
    while len(left) > 1:
        odd = left[len(left) - 1:] if len(left) % 2 == 1 else []
        left = [mixing(one, other) for one, other in zip(left[::2], left[1::2])] + odd
    return left[0]
