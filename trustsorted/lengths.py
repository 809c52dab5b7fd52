"""How many signs the rests of names can have, as bits: bit 3 is for three signs, bit FAR for FAR and more."""

FAR = 40


def can_go_on(afters):
    """For each state whether there is no end to the signs that can follow, where the states behind it are told."""
    left = {state: True for state in range(len(afters))}
    many = -1
    while many != len(left):
        many = len(left)
        left = {state: True for state in left if any([after in left for after in afters[state]])}
    return [state in left for state in range(len(afters))]


def rest_lengths(machine):
    """For each state of a machine how many signs the rests of names can have."""
    states = list(range(len(machine.ends)))
    afters = [sorted(set([after for row in machine.moves[state] for after in row])) for state in states]
    lengths = [1 << FAR if is_endless else 0 for is_endless in can_go_on(afters)]
    ending = list(machine.ends)
    for many in range(FAR + 1):
        lengths = [told | is_end << many for told, is_end in zip(lengths, ending)]
        ending = [any([ending[after] for after in afters[state]]) for state in states]
    return lengths


def up_to(most):
    """All lengths up to one, without those that are FAR and more if it is less."""
    return (1 << most + 1) - 1


def least_of(lengths):
    """The least one of some lengths."""
    return (lengths & -lengths).bit_length() - 1


def ordered(low, high, gap):
    """Those of some lengths beside which there can be others that are greater by a gap, and these."""
    most = high.bit_length() - 1
    least = min(FAR, least_of(low) + gap)
    return low if most == FAR else low & up_to(most - gap), high & ~up_to(least - 1)


def unequal(one, other):
    """Those of some lengths beside which there can be others that are not the same, and these."""
    told = [one, other]
    for at in (0, 1):
        if told[at] & told[at] - 1 == 0 and told[at] < 1 << FAR:
            told[1 - at] = told[1 - at] & ~told[at]
    return told[0], told[1]
