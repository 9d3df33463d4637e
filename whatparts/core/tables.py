"""Tables of steps and rests, without a limit to the number of their states.

A table has a dict for each state, from actions to next states; its state 0 is the first one.
"""


def copied_steps(steps):
    """The same steps in a tuple of new dicts with ascending keys."""
    return tuple([{name: row[name] for name in sorted(row)} for row in steps])


def follow(steps, word):
    """The state to which a word leads from the first one, or None."""
    state = 0
    for action in word:
        state = steps[state].get(action)
        if state is None:
            return None
    return state


def least_rows(steps, marks):
    """The steps between the fewest states that have the same marks behind all words, and an old state for each.

    They stand in the order of their first words. The marks, one for each old state, can be keys of a dict.
    """
    order = reached(steps)
    groups = _groups(steps, marks, order)
    firsts = {}
    for state in order:
        firsts.setdefault(groups[state], state)
    rows = [{action: groups[steps[state][action]] for action in steps[state]} for state in firsts.values()]
    return rows, list(firsts.values())


def reached(steps):
    """The states to which words lead, in the order of the first words that do."""
    order = [0]
    seen = {0: True}
    at = 0
    while at < len(order):
        row = steps[order[at]]
        for action in sorted(row):
            if row[action] not in seen:
                seen[row[action]] = True
                order.append(row[action])
        at += 1
    return order


def _groups(steps, marks, order):
    """A number for each state of the order: the same for states behind which all marks are the same."""
    groups = _by_marks(marks, order)
    while True:
        finer = _split(steps, groups)
        if finer == groups:
            return groups
        groups = finer


def _by_marks(marks, order):
    """A number for each state of the order: the same for states with the same mark."""
    numbers = {}
    groups = {}
    for state in order:
        groups[state] = numbers.setdefault(marks[state], len(numbers))
    return groups


def _split(steps, groups):
    """The groups with those states parted that differ by the groups to which they step."""
    # The old group is in each key, so a group is only ever split; and numbers are given in the
    # order of the states, so groups that are split no further keep their numbers.
    numbers = {}
    finer = {}
    for state in groups:
        row = steps[state]
        targets = tuple([(action, groups[row[action]]) for action in sorted(row)])
        finer[state] = numbers.setdefault((groups[state], targets), len(numbers))
    return finer


def walk_both(one, other):
    """The pairs of states to which words that both have lead, in the order of their first words.

    With them comes, for each pair, how its first word reaches it: the place of the pair before it in
    this order, and the last action. `word_to` tells the word by that.
    """
    pairs = [(0, 0)]
    came = [(0, None)]
    seen = {(0, 0): True}
    at = 0
    while at < len(pairs):
        first, second = one[pairs[at][0]], other[pairs[at][1]]
        for action in sorted(set(first) & set(second)):
            pair = (first[action], second[action])
            if pair not in seen:
                seen[pair] = True
                pairs.append(pair)
                came.append((at, action))
        at += 1
    return pairs, came


def word_to(came, at):
    """The first word that leads to the pair at this place."""
    # Each pair keeps one action alone, as long words of many pairs would take too much room.
    actions = []
    while at > 0:
        at, action = came[at]
        actions.append(action)
    return tuple(actions[::-1])


def pair_table(one, other, both):
    """The table of two tables that step together, as a pair of its steps and its rests.

    It has the words that both have and rests where both rest, or else the words that one of them
    has, and rests where one that has the word rests. Each of the tables is such a pair, too.
    """
    pairs = [(0, 0)]
    numbers = {(0, 0): 0}
    rows = []
    while len(rows) < len(pairs):
        targets = _targets(one[0], other[0], pairs[len(rows)], both)
        for pair in targets.values():
            if pair not in numbers:
                numbers[pair] = len(pairs)
                pairs.append(pair)
        rows.append({action: numbers[targets[action]] for action in targets})
    resting = [at for at, pair in enumerate(pairs) if _pair_rests(one[1], other[1], pair, both)]
    return rows, resting


def _targets(one, other, pair, both):
    """The next pair for each action that both have, or that one of them has."""
    # None stands in a pair for a table that does not have the word.
    first = {} if pair[0] is None else one[pair[0]]
    second = {} if pair[1] is None else other[pair[1]]
    if both:
        actions = sorted(set(first) & set(second))
    else:
        actions = sorted(set(first) | set(second))
    return {action: (first.get(action), second.get(action)) for action in actions}


def _pair_rests(one, other, pair, both):
    """Whether the states of a pair rest: both of them, or one."""
    resting = [pair[0] in one, pair[1] in other]
    return all(resting) if both else any(resting)


def word_table(words):
    """The steps of a table with just these words and their beginnings, and the state after each."""
    beginnings = sorted({word[:length] for word in [(), *words] for length in range(len(word) + 1)})
    numbers = {word: at for at, word in enumerate(beginnings)}
    steps = [{} for _ in beginnings]
    for word in beginnings[1:]:
        steps[numbers[word[:-1]]][word[-1]] = numbers[word]
    return steps, numbers
