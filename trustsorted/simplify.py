"""Machines that read the same names with fewer states at a time."""

from trustsorted.forms import Machine

ENDLESS = 1000000


def is_followed(machine, stronger, one, other):
    """Whether one can follow each move of other, as far as is known of the states behind."""
    if machine.ends[other] and not machine.ends[one]:
        return False
    for mine, others in zip(machine.moves[one], machine.moves[other]):
        for after in others:
            if not any([stronger[state][after] for state in mine]):
                return False
    return True


def stronger_states(machine):
    """For each two states whether the first one can follow all that the second one does.

    Then all names that can be read from the second one can be read from the
    first one.
    """
    many = len(machine.ends)
    stronger = [[True] * many for state in range(many)]
    is_stable = False
    while not is_stable:
        is_stable = True
        for one in range(many):
            for other in range(many):
                if stronger[one][other] and not is_followed(machine, stronger, one, other):
                    stronger[one][other] = False
                    is_stable = False
    return stronger


def strongest(states, stronger):
    """The states among some that no other one of them can stand in for."""
    kept = []
    for state in states:
        rivals = [other for other in states if other != state and stronger[other][state]]
        if all([stronger[state][other] and state < other for other in rivals]):
            kept.append(state)
    return tuple(kept)


def simplified(machine):
    """A machine that reads the same names, without moves for which others can stand in."""
    stronger = stronger_states(machine)
    moves = [tuple([strongest(states, stronger) for states in row]) for row in machine.moves]
    return Machine(strongest(machine.starts, stronger), machine.ends, tuple(moves))


def chained(machine, names):
    """A machine that reads given names, too, told by the numbers of their signs; where it begins each of them."""
    ends = list(machine.ends)
    moves = list(machine.moves)
    begins = []
    for name in names:
        begins.append(len(ends))
        for sign in name:
            behind = (len(ends) + 1,)
            ends.append(False)
            moves.append(tuple([behind if other == sign else () for other in range(len(machine.moves[0]))]))
        ends.append(True)
        moves.append(tuple([() for row in machine.moves[0]]))
    return Machine(machine.starts, tuple(ends), tuple(moves)), begins


def shortest_tails(machine):
    """For each state the signs of a shortest rest of a name behind it."""
    tails = {state: () for state in range(len(machine.ends)) if machine.ends[state]}
    while len(tails) < len(machine.ends):
        found = {}
        for state in range(len(machine.ends)):
            for sign, afters in enumerate(machine.moves[state]):
                known = [after for after in afters if after in tails]
                if state not in tails and state not in found and known:
                    found[state] = (sign,) + tails[known[0]]
        tails.update(found)
    return tails
