"""The least machine with the same solutions, and machines without one of their names."""


def least_machine(machine):
    """Return the least machine over the same names with the same solutions."""
    names, moves, ends = machine
    lively = _lively_states(moves, ends)
    trimmed = [[move if move in lively else -1 for move in row] for row in moves]
    classes = _classes(trimmed, ends)
    order = [classes[0]]
    numbers = {classes[0]: 0}
    found = []
    while len(found) < len(order):
        row = trimmed[classes.index(order[len(found)])]
        for later in row:
            if later != -1 and classes[later] not in numbers:
                numbers[classes[later]] = len(order)
                order.append(classes[later])
        found.append(tuple([-1 if move == -1 else numbers[classes[move]] for move in row]))
    return names, tuple(found), tuple([ends[classes.index(own)] for own in order])


def without_name(machine, name):
    """Return a machine over the other names that holds if the machine holds for some word of the name."""
    names, moves, ends = machine
    place = len(names) - 1 - names.index(name)
    columns = [column for column in range(1 << len(names)) if column >> place & 1 == 0]
    order = [(0,)]
    numbers = {(0,): 0}
    found = []
    while len(found) < len(order):
        row = []
        for column in columns:
            states = _either(moves, order[len(found)], column, column + (1 << place))
            if states != () and states not in numbers:
                numbers[states] = len(order)
                order.append(states)
            row.append(numbers.get(states, -1))
        found.append(tuple(row))
    others = tuple([other for other in names if other != name])
    return others, tuple(found), tuple([max([ends[state] for state in own]) for own in order])


def _either(moves, states, column, other):
    """Return the states to which one of two columns leads from one of the states."""
    found = [moves[state][number] for state in states for number in (column, other)]
    return tuple(sorted(set([state for state in found if state != -1])))


def _lively_states(moves, ends):
    """Return a dict whose keys are the states from which an end can be reached."""
    before = {state: [] for state in range(len(moves))}
    for state, row in enumerate(moves):
        for move in sorted(set(row)):
            if move != -1:
                before[move].append(state)
    waiting = [state for state, end in enumerate(ends) if end == 1]
    lively = {}
    while waiting != []:
        state = waiting.pop()
        if state not in lively:
            lively[state] = True
            waiting.extend(before[state])
    return lively


def _classes(moves, ends):
    """Return a number for each state; states from which the same sequences lead to ends have equal numbers."""
    classes = list(ends)
    many = 0
    while True:
        numbers = {}
        signs = [(own, *[-1 if move == -1 else classes[move] for move in row]) for own, row in zip(classes, moves)]
        classes = [numbers.setdefault(sign, len(numbers)) for sign in signs]
        if len(numbers) == many:
            return classes
        many = len(numbers)
