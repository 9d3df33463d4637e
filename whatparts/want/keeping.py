"""Whether a part keeps a wish, and papers that show it."""

from whatparts.core.names import is_count, is_number, is_word
from whatparts.core.parts import check_part
from whatparts.core.tables import follow, walk_both, word_to
from whatparts.errors import InvalidOperation
from whatparts.want.wishes import check_wish


class Pairing:
    """A part beside a wish with states.

    A pair has a state of each. A spot has, besides, the index of a goal of the state of the wish.
    """

    def __init__(self, part, wish):
        self._part_steps = part.steps
        self._part_offers = [part.offer(state) for state in range(len(part))]
        self._wish_steps = wish.steps
        self._allowed = wish.offers
        self._wish_goals = wish.goals

    def walk(self):
        """The pairs after all words of the part that the wish follows, and how they are reached."""
        return walk_both(self._part_steps, self._wish_steps)

    def pair_after(self, word):
        """The pair after a word of the part that the wish follows, or None for what is no such word."""
        if not is_word(word):
            return None
        pair = (follow(self._part_steps, word), follow(self._wish_steps, word))
        return None if None in pair else pair

    def is_pair(self, value):
        """Whether the value is a pair of a state of the part and one of the wish."""
        if not isinstance(value, tuple) or len(value) != 2:
            return False
        if not is_number(value[0], 0, len(self._part_steps) - 1):
            return False
        return is_number(value[1], 0, len(self._wish_steps) - 1)

    def is_allowed(self, pair):
        """Whether the wish allows the offer of the part there."""
        return self._part_offers[pair[0]] in self._allowed[pair[1]]

    def pairs_behind(self, pair):
        """The next pairs by the actions of the offer there, which is allowed."""
        row = self._part_steps[pair[0]]
        return [(row[action], self._wish_steps[pair[1]][action]) for action in row]

    def spots(self, pair):
        """A spot for each goal there."""
        return [(*pair, goal) for goal in range(len(self._wish_goals[pair[1]]))]

    def is_done(self, spot):
        """Whether the offer of the part does the goal."""
        done, _ = self._wish_goals[spot[1]][spot[2]]
        return self._part_offers[spot[0]] in done

    def moves(self, spot):
        """The spots to which the goal moves by the actions of the offer, with their actions, ascending."""
        _, by_action = self._wish_goals[spot[1]][spot[2]]
        actions, _ = self._part_offers[spot[0]]
        return [
            (action, (self._part_steps[spot[0]][action], self._wish_steps[spot[1]][action], goal))
            for action in actions if action in by_action
            for goal in by_action[action]
        ]


def keeps(part, wish):
    """Whether a part keeps a wish."""
    return keep_paper(part, wish)[0] == "kept"


def keep_paper(part, wish):
    """A paper that shows that a part keeps a wish, or that it does not."""
    _check_both(part, wish)
    if wish.is_empty:
        return "offer", ()
    pairing = Pairing(part, wish)
    pairs, came = pairing.walk()
    for at, pair in enumerate(pairs):
        if not pairing.is_allowed(pair):
            return "offer", word_to(came, at)
    numbers = _distances(pairing, pairs)
    for at, pair in enumerate(pairs):
        for spot in pairing.spots(pair):
            if spot not in numbers:
                return "goal", word_to(came, at), spot[2]
    return "kept", {pair: tuple([numbers[spot] for spot in pairing.spots(pair)]) for pair in sorted(pairs)}


def is_keep_paper(part, wish, value):
    """Whether the value is a right paper about a part and a wish."""
    _check_both(part, wish)
    if not isinstance(value, tuple) or len(value) not in (2, 3):
        return False
    if wish.is_empty:
        return value == ("offer", ())
    pairing = Pairing(part, wish)
    if len(value) == 3:
        return value[0] == "goal" and _is_goal_missed(pairing, value[1], value[2])
    if value[0] == "offer":
        pair = pairing.pair_after(value[1])
        return pair is not None and not pairing.is_allowed(pair)
    return value[0] == "kept" and _is_table(pairing, value[1])


def ways(part, wish, word):
    """The first word, or None, that serves each goal behind a word of the part that the wish follows."""
    _check_both(part, wish)
    pairing = Pairing(part, wish)
    pair = None if wish.is_empty else pairing.pair_after(word)
    if pair is None:
        raise InvalidOperation("this is no word of the part that the wish follows")
    pairs, _ = pairing.walk()
    numbers = _distances(pairing, pairs)
    return tuple([_first_way(pairing, numbers, spot) for spot in pairing.spots(pair)])


def _check_both(part, wish):
    """Raise InvalidPart for what is no part, or InvalidWish for what is no wish."""
    check_part(part)
    check_wish(wish)


def _distances(pairing, pairs):
    """For each spot at these pairs that is served there: after how many steps its goal can be done."""
    numbers = {}
    before = {}
    for pair in pairs:
        for spot in pairing.spots(pair):
            if pairing.is_done(spot):
                numbers[spot] = 0
            for _, target in pairing.moves(spot):
                before.setdefault(target, []).append(spot)
    order = list(numbers)
    at = 0
    while at < len(order):
        for spot in before.get(order[at], []):
            if spot not in numbers:
                numbers[spot] = numbers[order[at]] + 1
                order.append(spot)
        at += 1
    return numbers


def _first_way(pairing, numbers, spot):
    """The first word along which the goal of a spot moves to one that is done, or None."""
    if spot not in numbers:
        return None
    # A goal can move to several by one action, so all that lie on a shortest way are followed at once.
    word = ()
    spots = [spot]
    for left in reversed(range(numbers[spot])):
        moves = [move for at in spots for move in pairing.moves(at) if numbers.get(move[1]) == left]
        action = min([name for name, _ in moves])
        spots = sorted({target for name, target in moves if name == action})
        word = word + (action,)
    return word


def _is_table(pairing, table):
    """Whether this is a right table of a part that keeps the wish."""
    # Rows are compared with other rows, so all of them must have their form first.
    if not isinstance(table, dict) or not all([pairing.is_pair(pair) for pair in table]):
        return False
    if not all([_is_row(row, len(pairing.spots(pair))) for pair, row in table.items()]):
        return False
    return (0, 0) in table and all([_is_right_row(pairing, table, pair) for pair in table])


def _is_row(row, many):
    """Whether this is a tuple of so many integers from 0 on."""
    if not isinstance(row, tuple) or len(row) != many:
        return False
    return all([is_count(number) for number in row])


def _is_right_row(pairing, table, pair):
    """Whether a table has at this pair what it must have there, and the pairs behind it."""
    if not pairing.is_allowed(pair) or not all([behind in table for behind in pairing.pairs_behind(pair)]):
        return False
    return all([_is_right_number(pairing, table, spot) for spot in pairing.spots(pair)])


def _is_right_number(pairing, table, spot):
    """Whether the goal is done there, for the number 0, or moves to one with a smaller number."""
    number = table[spot[:2]][spot[2]]
    if number == 0:
        return pairing.is_done(spot)
    return any([table[target[:2]][target[2]] < number for _, target in pairing.moves(spot)])


def _is_goal_missed(pairing, word, goal):
    """Whether a goal is not served after a word, though the offers after all words are allowed."""
    pairs, _ = pairing.walk()
    if not all([pairing.is_allowed(pair) for pair in pairs]):
        return False
    pair = pairing.pair_after(word)
    if pair is None or not is_number(goal, 0, len(pairing.spots(pair)) - 1):
        return False
    return (*pair, goal) not in _distances(pairing, pairs)
