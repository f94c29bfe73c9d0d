"""The cheapest layout that is right for several functions, and why there is no cheaper one."""

from itertools import permutations

from bytegrove.errors import NoLayout
from bytegrove.layouts import PLUS, Layout, spec_price, tree_parts
from bytegrove.passages import passages_of


def takers_of(functions, reached, maker):
    """Return those of the reached functions that take the kind of the maker."""
    kind = functions.kinds.kind_of(maker)
    return [name for name in reached if functions.takes(name) == kind]


def asked_before(functions, reached, maker):
    """Return a dict with each pair of parts of which one is asked before the other (point 28)."""
    pairs = {}
    for name in takers_of(functions, reached, maker):
        for path in functions.paths(name, maker):
            asked = [part for part, called, low in path]
            for at, part in enumerate(asked):
                for later in asked[at + 1:]:
                    pairs[(part, later)] = True
    return pairs


def cycles_of(parts, before, size):
    """Return the cycles of so many of the parts."""
    return [cycle for cycle in permutations(parts, size)
            if all([pair in before for pair in zip(cycle, cycle[1:] + cycle[:1])])]


def check_cycles(functions, reached):
    """Raise NoLayout if a maker has a cycle (point 28)."""
    for maker in functions.kinds.order:
        parts = list(functions.kinds.parts(maker))
        before = asked_before(functions, reached, maker)
        for size in range(2, len(parts) + 1):
            cycles = cycles_of(parts, before, size)
            if len(cycles) > 0:
                raise NoLayout(maker, min(cycles))


def specs_over(slots, parts):
    """Return all specs that store the parts. `slots` has the slots that each part can have."""
    if len(parts) == 0:
        return [()]
    found = []
    for part in parts:
        others = specs_over(slots, [other for other in parts if other != part])
        found.extend([(slot, *rest) for slot in slots[part] for rest in others])
    return found


def ranked_specs(kinds, maker):
    """Return pairs of a price and a spec, one for each spec of the maker, the best one first."""
    inside = tree_parts(kinds, maker)
    slots = {part: (part, PLUS + part) if part in inside else (part,) for part in kinds.parts(maker)}
    specs = specs_over(slots, list(slots))
    return sorted([(spec_price(kinds, maker, spec), spec) for spec in specs])


def needs_of(functions, takers, maker, spec):
    """Return what makes the spec good if the takers run, or None if nothing does.

    The needs are a tuple of the functions that have to end in any case, and a tuple of triples, one for each
    taker: its name, whether it can end, and a tuple of the functions that have to end if it does.
    """
    always = {}
    ends = []
    for name in takers:
        passages = passages_of(functions, name, maker, spec)
        if not all([passage.goes for passage in passages]):
            return None
        for passage in passages:
            for part, called in passage.held:
                always[called] = True
        whole = all([passage.whole for passage in passages])
        inner = {called: True for passage in passages for part, called in passage.loose}
        ends.append((name, whole, tuple(sorted(inner))))
    return tuple(sorted(always)), tuple(ends)


def choices_for(functions, reached, maker):
    """Return a dict from needs to the best pair of a price and a spec that has just these needs, the best one first."""
    takers = takers_of(functions, reached, maker)
    choices = {}
    for price, spec in ranked_specs(functions.kinds, maker):
        needs = needs_of(functions, takers, maker, spec)
        if needs is not None and needs not in choices:
            choices[needs] = (price, spec)
    return choices


def is_good(needs, ends):
    """Tell whether a spec with these needs is good if exactly these functions end (point 29)."""
    always, takers = needs
    if not all([called in ends for called in always]):
        return False
    for name, whole, inner in takers:
        if name in ends and not (whole and all([called in ends for called in inner])):
            return False
    return True


def best_choice(choices, ends):
    """Return the price and the spec of the best good choice if exactly these functions end."""
    # There is one: without a cycle, a spec in which all is measured can follow the order of all paths.
    good = [choice for needs, choice in choices.items() if is_good(needs, ends)]
    return good[0]


def offers(functions, *starts):
    """Return the best specs for each set of reached functions that might end (point 29)."""
    reached = functions.reached(*starts)
    check_cycles(functions, reached)
    makers = [choices_for(functions, reached, maker) for maker in functions.kinds.order]
    found = []
    for number in range(1 << len(reached)):
        ends = tuple([name for at, name in enumerate(reached) if (number >> at) & 1 == 1])
        best = [best_choice(choices, ends) for choices in makers]
        found.append((ends, tuple([spec for price, spec in best]), sum([price for price, spec in best])))
    return found


def cheapest(functions, *starts):
    """Return the least layout that is right for all starts (point 27)."""
    total, specs = min([(total, specs) for ends, specs, total in offers(functions, *starts)])
    return Layout(functions.kinds, dict(zip(functions.kinds.order, specs)))


def extra_price(functions, name, *starts):
    """Return by how much the cheapest layout gets dearer with one more start (point 30)."""
    # The errors are those of the call with the name: so this one goes first.
    price = cheapest(functions, name, *starts).price
    return price - cheapest(functions, *starts).price
