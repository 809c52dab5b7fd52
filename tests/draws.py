"""Houses, names and listings drawn at random, the same ones in each run."""

from tests.plain import FIGURES, figures_stand_together, keeps, weak_orders

SIGNS = ("a", "b", "A", "1", "2", "-", "_", ".")


def draw_signs(random, most):
    return random.sample(SIGNS, random.randint(1, most))


def draw_form(random, signs, most):
    items = []
    for _ in range(random.randint(1, most)):
        body = random.sample(signs, random.randint(1, len(signs)))
        items.append("".join(body) + random.choice(["", "", "?", "+", "*"]))
    return "names " + " ".join(items)


def draw_classes(random, signs, word):
    told = [
        classes for classes in weak_orders(list(signs))
        if word != "figures" or figures_stand_together(classes)
    ] if len(signs) <= 4 else [draw_wide_classes(random, signs)]
    return random.choice(told)


def draw_wide_classes(random, signs):
    others = [sign for sign in signs if sign not in FIGURES]
    figures = [sign for sign in signs if sign in FIGURES]
    random.shuffle(others)
    random.shuffle(figures)
    cut = random.randint(0, len(others))
    classes = []
    for part in (others[:cut], figures, others[cut:]):
        fresh = True
        for sign in part:
            if not fresh and random.random() < 0.4:
                classes[-1] = tuple(sorted(classes[-1] + (sign,)))
            else:
                classes.append((sign,))
            fresh = False
    return tuple(classes)


def draw_facts(random, signs, classes, most):
    facts = []
    for _ in range(random.randint(0, most)):
        if len(signs) > 1:
            one, other = random.sample(signs, 2)
            words = [word for word in ("<", "<=", "=", "!=") if keeps(classes, one + word + other)]
            if words:
                facts.append(one + random.choice(words) + other)
    return facts


def draw_pass(random, signs, is_first, known):
    words = ["ranks", "ranks", "figures", "length"] + ([] if is_first else ["back", "back"])
    word = random.choice(words)
    if word == "length":
        return "  length"
    classes = draw_classes(random, signs, word)
    if random.random() < known:
        return " ".join(["  " + word, "known"] + draw_facts(random, signs, classes, 3))
    return " ".join(["  " + word] + ["=".join(part) for part in classes])


def draw_house(random, most_signs=3, rules=("one", "two"), most_passes=3, known=0.4, forms=0.5, most_items=4):
    signs = draw_signs(random, most_signs)
    lines = ["signs " + " ".join(signs)]
    if random.random() < forms:
        lines.extend(draw_form(random, signs, most_items) for _ in range(random.randint(1, 2)))
    for rule in rules:
        lines.append("rule " + rule)
        for number in range(random.randint(1, most_passes)):
            lines.append(draw_pass(random, signs, number == 0, known))
    return "\n".join(lines)
