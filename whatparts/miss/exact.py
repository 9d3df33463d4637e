"""The wish on a missing part, where the parts in all other slots are there."""

from whatparts.core.names import all_offers, is_offer, is_word
from whatparts.core.tables import reached
from whatparts.errors import InvalidOperation, TooMany
from whatparts.glue.joints import check_joint, check_parts, check_slot, slots_beside, whole_of
from whatparts.miss.goals import fewer_goals
from whatparts.want.keeping import keeps
from whatparts.want.wishes import check_wish, names_in, reached_wish

MAX_STANDINGS = 40


class Around:
    """What is around a slot: a joint, a wish on the whole, and what is known of the other slots.

    `known` has for each other slot a pair of its steps and of the offers that it can make in each
    state. The slot is None if nothing is missing, and so is its offer then. A spot is a pair of a
    standing and the index of a goal of its state of the wish.
    """

    def __init__(self, joint, slot, wish, known):
        self._slot = slot
        self._rules = joint.rules
        self._rests = joint.rests
        self._known = {name: known[name] for name in sorted(known)}
        self._wish_steps = wish.steps
        self._allowed = wish.offers
        self._goals = wish.goals
        self._moves = {}
        self._made = {}

    def start(self):
        """The standing in which all are at first, alone in a list."""
        # What can make no offer at first is met by no part, so the whole can be in nothing.
        if not all([len(offers) > 0 and len(offers[0]) > 0 for _, offers in self._known.values()]):
            return []
        return [(0, tuple([0 for _ in self._known]), 0 if len(self._allowed) > 0 else -1)]

    def first(self):
        """The standings after the empty word."""
        return self._closed(self.start())

    def after(self, standings, action):
        """The standings after one more action of the slot."""
        found = [target for standing in standings for _, own, target in self.moves(standing) if own == action]
        return self._closed(found)

    def moves(self, standing):
        """What the rules let be done, as far as the other slots can: triples.

        They are the action of the whole, the action of the slot or None, and the next standing.
        """
        if standing not in self._moves:
            self._moves[standing] = self._found_moves(standing)
        return self._moves[standing]

    def unsuited(self, standing, offer):
        """Offers of all slots, this one among them, that make one of the whole which the wish does not allow.

        They stand in the order of `made`. None if there are none.
        """
        state = standing[2]
        for made, chosen in self.made(standing, offer).items():
            if state == -1 or made not in self._allowed[state]:
                return chosen
        return None

    def made(self, standing, offer):
        """The offers that the whole can make in a standing with this offer of the slot.

        They have the offers of all slots that make them, the other slots ascending, the slot behind them.
        """
        key = (standing[:2], offer)
        if key not in self._made:
            mode, states = key[0]
            choices = [(name, offers[states[at]]) for at, (name, (_, offers)) in enumerate(self._known.items())]
            own = [] if offer is None else [(self._slot, (offer,))]
            self._made[key] = _made_offers(self._rules[mode], self._rests[mode], choices + own)
        return self._made[key]

    def spots(self, standings):
        """The spots of some standings, in this order."""
        return [
            (standing, goal) for standing in standings if standing[2] != -1
            for goal in range(len(self._goals[standing[2]]))
        ]

    def drift(self, spot):
        """The spot, and those to which its goal moves without a step of the slot."""
        found = [spot]
        seen = {spot: True}
        at = 0
        while at < len(found):
            targets = self._goal_moves(found[at], None)
            for target in targets:
                if target not in seen:
                    seen[target] = True
                    found.append(target)
            at += 1
        return found

    def is_done(self, spots, offer):
        """Whether one of the spots is done by the offer that the whole makes with this one of the slot."""
        return any([self._is_goal_done(standing, goal, offer) for standing, goal in spots])

    def moved(self, spots, action):
        """The spots to which goals move by an action of the slot."""
        return [target for spot in spots for target in self._goal_moves(spot, action)]

    def _closed(self, standings):
        """The standings, and all that follow by rules that do not step the slot, ascending."""
        found = {first: True for first in standings}
        todo = list(found)
        while todo:
            standing = todo.pop()
            for _, own, target in self.moves(standing):
                if own is None and target not in found:
                    found[target] = True
                    todo.append(target)
        return tuple(sorted(found))

    def _found_moves(self, standing):
        """The triples of `moves`."""
        mode, states, state = standing
        found = []
        for action, (needs, behind) in self._rules[mode].items():
            nexts = self._stepped(states, needs)
            if None not in nexts:
                goes = -1 if state == -1 else self._wish_steps[state].get(action, -1)
                found.append((action, needs.get(self._slot), (behind, nexts, goes)))
        return found

    def _stepped(self, states, needs):
        """The next states of the other slots, None for what cannot step."""
        found = []
        for at, (name, (steps, _)) in enumerate(self._known.items()):
            found.append(steps[states[at]].get(needs[name]) if name in needs else states[at])
        return tuple(found)

    def _goal_moves(self, spot, action):
        """The spots to which a goal moves by one rule that steps the slot by this action, or by none for None."""
        standing, goal = spot
        _, by_action = self._goals[standing[2]][goal]
        return [
            (target, behind)
            for does, own, target in self.moves(standing) if own == action and does in by_action
            for behind in by_action[does]
        ]

    def _is_goal_done(self, standing, goal, offer):
        """Whether the offer of the whole that is made so does a goal."""
        done, _ = self._goals[standing[2]][goal]
        return any([made in done for made in self.made(standing, offer)])


def standings_after(joint, slot, wish, others, word):
    """The standings after a word of the slot, ascending."""
    around = _around_parts(joint, slot, wish, others)
    _check_word(joint.slots[slot], word)
    return _standings(around, word)


def suits(joint, slot, wish, others, word, offer):
    """Whether an offer suits the standings after a word of the slot."""
    around = _around_parts(joint, slot, wish, others)
    names = joint.slots[slot]
    _check_word(names, word)
    if not is_offer(offer) or not all([action in names for action in offer[0]]):
        raise InvalidOperation("this is no offer with actions of the slot")
    return are_suited(around, _standings(around, word), offer)


def missing_wish(joint, slot, wish, others):
    """The wish that a part keeps exactly if it has actions of the slot alone and makes the whole keep a wish."""
    return wish_around(_around_parts(joint, slot, wish, others), joint.slots[slot])


def fits(joint, wish, parts):
    """Whether the whole of a joint with these parts keeps a wish."""
    check_joint(joint)
    check_wish(wish)
    check_parts(joint.slots, parts)
    return keeps(whole_of(joint, parts), wish)


def known_part(part):
    """The steps of a part, and the one offer that it can make in each state."""
    return part.steps, [(part.offer(state),) for state in range(len(part))]


def are_suited(around, standings, offer):
    """Whether an offer suits some standings."""
    return all([around.unsuited(standing, offer) is None for standing in standings])


def wish_around(around, names):
    """The wish on a slot with these actions, by what is around it."""
    order, nexts = _all_standings(around, names)
    offers = [[offer for offer in all_offers(names) if are_suited(around, rows, offer)] for rows in order]
    steps = [{action: nexts[at][action] for action in names_in(row)} for at, row in enumerate(offers)]
    spots = [() for _ in order]
    # Many tuples of standings follow only where no offer suits; their goals are not asked for.
    for at in reached(steps):
        spots[at] = around.spots(order[at])
    places = [{spot: index for index, spot in enumerate(row)} for row in spots]
    goals = []
    for at, row in enumerate(spots):
        behind = {action: places[goes] for action, goes in steps[at].items()}
        goals.append([_goal(around, spot, offers[at], behind) for spot in row])
    return reached_wish(offers, steps, fewer_goals(offers, steps, goals))


def _around_parts(joint, slot, wish, others):
    """What is around a slot where the other slots have parts, or the error for the first wrong argument."""
    check_slot(joint, slot)
    check_wish(wish)
    check_parts(slots_beside(joint, slot), others)
    return Around(joint, slot, wish, {name: known_part(others[name]) for name in others})


def _check_word(names, word):
    """Raise InvalidOperation for what is no tuple of these actions."""
    if not is_word(word) or not all([action in names for action in word]):
        raise InvalidOperation("this is no tuple of actions of the slot")


def _standings(around, word):
    """The standings after a word."""
    standings = around.first()
    for action in word:
        standings = around.after(standings, action)
    return standings


def _all_standings(around, names):
    """All tuples of standings after words of these actions, and for each the place of the next one by each action."""
    order = [around.first()]
    numbers = {order[0]: 0}
    nexts = []
    while len(nexts) < len(order):
        row = {}
        for action in names:
            standings = around.after(order[len(nexts)], action)
            if standings not in numbers:
                numbers[standings] = len(order)
                order.append(standings)
            row[action] = numbers[standings]
        if len(order) > MAX_STANDINGS:
            raise TooMany(MAX_STANDINGS)
        nexts.append(row)
    return order, nexts


def _goal(around, spot, offers, behind):
    """The goal of the slot that serves a goal of the whole; behind each action its spots have these indices."""
    spots = around.drift(spot)
    moves = {}
    for action in behind:
        goals = sorted({behind[action][target] for target in around.moved(spots, action)})
        if goals:
            moves[action] = tuple(goals)
    return tuple([offer for offer in offers if around.is_done(spots, offer)]), moves


def _made_offers(rules, must, choices):
    """The offers that a whole can make in a mode, each with one choice of offers of the slots that makes it.

    `choices` has pairs of a slot and the offers that can be chosen for it.
    """
    found = {(tuple(rules), must is not None): ()}
    for slot, offers in choices:
        more = {}
        for (actions, rests), chosen in found.items():
            for names, resting in offers:
                can = tuple([action for action in actions if rules[action][0].get(slot) in (None, *names)])
                made = (can, rests and (slot not in must or resting))
                more.setdefault(made, (*chosen, (names, resting)))
        found = more
    return found
