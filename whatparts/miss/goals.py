"""Goals that need not be told: those that are served anyway, and those that stand beside an equal one.

A spot is a pair of a state and the index of one of its goals.
"""


def fewer_goals(offers, steps, goals):
    """Goals for the states of a wish that the same parts serve, of which there may be fewer."""
    spots = _spots_left(offers, steps, goals)
    classes = _classes(spots)
    places = [{} for _ in goals]
    firsts = [[] for _ in goals]
    for spot in spots:
        if classes[spot] not in places[spot[0]]:
            places[spot[0]][classes[spot]] = len(firsts[spot[0]])
            firsts[spot[0]].append(spot)
    return [[_goal_at(spots[spot], classes, places) for spot in row] for row in firsts]


def _spots_left(offers, steps, goals):
    """What does each goal that is not served anyway, and the spots to which it moves by each action."""
    anyway = _served_anyway(offers, steps, goals)
    spots = {}
    for state, row in enumerate(goals):
        for goal, (done, moves) in enumerate(row):
            if (state, goal) in anyway:
                continue
            # An action that moves to what is served anyway serves the goal, so all offers with it do.
            serving = [name for name in moves if _leads_to(steps[state][name], moves[name], anyway)]
            kept = [offer for offer in offers[state] if offer in done or any([name in serving for name in offer[0]])]
            ways = {
                name: [(steps[state][name], behind) for behind in moves[name]] for name in moves if name not in serving
            }
            spots[(state, goal)] = (tuple(kept), ways)
    return spots


def _served_anyway(offers, steps, goals):
    """The spots that each allowed offer does, or moves to such a spot."""
    found = {}
    many = -1
    while len(found) > many:
        many = len(found)
        for state, row in enumerate(goals):
            for goal, (done, moves) in enumerate(row):
                serving = [name for name in moves if _leads_to(steps[state][name], moves[name], found)]
                if all([offer in done or any([name in serving for name in offer[0]]) for offer in offers[state]]):
                    found[(state, goal)] = True
    return found


def _leads_to(state, goals, found):
    """Whether one of these goals of a state is found."""
    return any([(state, goal) in found for goal in goals])


def _classes(spots):
    """A number for each spot: the same for spots of one state that are served in the same ways."""
    classes = {spot: 0 for spot in spots}
    while True:
        numbers = {}
        finer = {}
        for spot, (done, ways) in spots.items():
            behind = tuple([(name, tuple(sorted({classes[target] for target in ways[name]}))) for name in ways])
            finer[spot] = numbers.setdefault((classes[spot], spot[0], done, behind), len(numbers))
        if finer == classes:
            return classes
        classes = finer


def _goal_at(spot, classes, places):
    """The goal that is told for a spot, where places tell the index of each class in each state."""
    done, ways = spot
    moves = {}
    for name in ways:
        moves[name] = tuple(sorted({places[state][classes[(state, goal)]] for state, goal in ways[name]}))
    return done, moves
