"""Trees of truths: what holds at the fifths of each kind. Regions are made of them.

A leaf has five truths: for the kinds "middle", "left", "right", "other" and "none". All trees
that are made here are least trees, if those that are passed are.
"""

from anyfifth.trees import is_branch, sizes_of

NONE = (False, False, False, False, False)
EVERY = (True, True, True, True, True)
# What holds of two truths a and b stands at the index 2 * a + b.
AND = (False, False, False, True)
OR = (False, True, True, True)
LESS = (False, False, True, False)
UNLIKE = (False, True, True, False)


def branch_of(truth, left, right):
    """The least tree that has this truth at the middle and these trees for the halves."""
    if not is_branch(left) and not is_branch(right):
        leaf = (truth, left[0], right[0], left[2], left[4])
        if halves_of(leaf) == (truth, left, right):
            return leaf
    return truth, left, right


def halves_of(leaf):
    """The branch that tells the same as a leaf."""
    middle, left, right, other, bare = leaf
    return middle, (left, left, other, other, bare), (right, other, right, other, bare)


def combined(one, other, table):
    """The tree that tells at each fifth what the table has for the truths of both trees."""
    if not is_branch(one) and not is_branch(other):
        return tuple([table[2 * a + b] for a, b in zip(one, other)])
    truth, left, right = one if is_branch(one) else halves_of(one)
    other_truth, other_left, other_right = other if is_branch(other) else halves_of(other)
    return branch_of(
        table[2 * truth + other_truth],
        combined(left, other_left, table),
        combined(right, other_right, table))


def mirror_of(tree):
    """The tree that tells of 1 - f what this one tells of f."""
    if is_branch(tree):
        truth, left, right = tree
        return truth, mirror_of(right), mirror_of(left)
    middle, left, right, other, bare = tree
    return middle, right, left, other, bare


def truth_at(leaf, u, v):
    """What a leaf tells of the fraction with this spot."""
    if v == 1:
        return leaf[0] if u == 1 else leaf[1]
    return leaf[2] if u == 1 else leaf[3]


def above_tree(fifth):
    """The tree of all fifths above a fraction."""
    tree = (False, NONE, EVERY)
    for is_left in _turns_to(fifth)[::-1]:
        tree = (True, tree, EVERY) if is_left else (False, NONE, tree)
    return tree


def below_tree(fifth):
    """The tree of all fifths below a fraction."""
    return mirror_of(above_tree(1 - fifth))


def beside_tree(fifth):
    """The tree of the neighbours of a fraction that are below it."""
    # The greatest bound of the pieces around the fraction that is below it is
    # its simplest neighbour there; 0/1 is no fifth. The others lie between.
    tree = (False, (True, False, True, False, False), NONE)
    is_bound = True
    for is_left in _turns_to(fifth)[::-1]:
        if is_left:
            tree = (False, tree, NONE)
        else:
            tree = (is_bound, NONE, tree)
            is_bound = False
    return tree


def tree_of(nodes):
    """The least tree whose nodes are these: of a branch its truth, then its halves; of a leaf its truths."""
    made = []
    for node in nodes[::-1]:
        if isinstance(node, bool):
            left = made.pop()
            right = made.pop()
            made.append(branch_of(node, left, right))
        else:
            made.append(node)
    return made[0]


def tree_in(row):
    """The tree whose words follow to the end of a row, None if it is not the least one."""
    nodes, missing = [], 1
    while missing > 0:
        node = row.taken(_node_in)
        nodes.append(node)
        missing = missing + 1 if isinstance(node, bool) else missing - 1
    row.close()
    tree = tree_of(nodes)
    _, leaves = sizes_of(tree)
    return tree if 2 * leaves - 1 == len(nodes) else None


def words_of(tree):
    """The words of the text of a tree."""
    words = []
    waiting = [tree]
    while waiting:
        node = waiting.pop()
        if is_branch(node):
            words.append("1" if node[0] else "0")
            waiting.append(node[2])
            waiting.append(node[1])
        else:
            words.append("".join(["1" if truth else "0" for truth in node]))
    return words


def _node_in(word):
    """The truth of a branch, or the truths of a leaf, whose word this is; None if there is none."""
    if word in ("0", "1"):
        return word == "1"
    if len(word) == 5 and word.strip("01") == "":
        return tuple([sign == "1" for sign in word])
    return None


def _turns_to(fifth):
    """The way down to the piece with this middle: for each half whether it is the left one."""
    u, v = fifth.bottom - fifth.top, fifth.top
    turns = []
    while u != v:
        turns.append(u > v)
        if u > v:
            u = u - v
        else:
            v = v - u
    return turns
