"""The least machine with the same solutions, of one or several machines, and machines without some names."""

from shadowlinks.machines import joined_machine
from shadowlinks.names import merge_names

# With more groups, or with more states in all groups together, telling them apart takes longer than it saves.
MOST_GROUPS = 30000
MOST_DIGITS = 12000000


def least_machine(machine):
    """Return the least machine over the same names with the same solutions."""
    names, moves, ends = machine
    lively = _lively_states(moves, ends)
    trimmed = [[move if move in lively else -1 for move in row] for row in moves]
    classes = _classes(trimmed, ends)
    first = {}
    for state, own in enumerate(classes):
        first.setdefault(own, state)
    order = [classes[0]]
    numbers = {classes[0]: 0}
    found = []
    while len(found) < len(order):
        row = trimmed[first[order[len(found)]]]
        for later in row:
            if later != -1 and classes[later] not in numbers:
                numbers[classes[later]] = len(order)
                order.append(classes[later])
        found.append(tuple([-1 if move == -1 else numbers[classes[move]] for move in row]))
    return names, tuple(found), tuple([ends[first[own]] for own in order])


def joined_least(machines):
    """Return the least machine over the names of all machines that holds where all of them hold."""
    found = (), ((0,),), (1,)
    for machine in machines:
        found = least_machine(joined_machine(merge_names(found[0], machine[0]), [found, machine]))
    return found


def without_columns(machine, hidden):
    """Return a machine over the other names that holds if the machine holds for some words of the hidden names."""
    names, moves, ends = machine
    choices = _column_choices(names, hidden)
    rows = [[_states_in([row[number] for number in numbered]) for numbered in choices] for row in moves]
    signs = _signs(rows, ends)
    order = [[0]]
    numbers = {signs[0]: 0}
    found = []
    while len(found) < len(order):
        row = []
        for column in range(len(choices)):
            later = [state for own in order[len(found)] for state in rows[own][column]]
            sign, states = _united(signs, _states_in(later))
            if sign != 0 and sign not in numbers:
                numbers[sign] = len(order)
                order.append(states)
            row.append(-1 if sign == 0 else numbers[sign])
        found.append(tuple(row))
    others = tuple([name for name in names if name not in hidden])
    return others, tuple(found), tuple([max([ends[state] for state in own]) for own in order])


def _column_choices(names, hidden):
    """Return for each column of the other names the columns of all names that have its letters."""
    choices = [[0]]
    for name in names:
        if name in hidden:
            choices = [[2 * column + letter for column in columns for letter in (0, 1)] for columns in choices]
        else:
            choices = [[2 * column + letter for column in columns] for columns in choices for letter in (0, 1)]
    return choices


def _states_in(moves):
    """Return the states to which the moves lead, each once."""
    return sorted(set([move for move in moves if move != -1]))


def _united(signs, states):
    """Return the sign of the states together, and as many of the states as are needed for it."""
    sign = 0
    needed = []
    for state in states:
        if sign | signs[state] != sign:
            sign = sign | signs[state]
            needed.append(state)
    return sign, needed


def _signs(rows, ends):
    """Return a sign for each state: an integer whose binary digits stand for what leads from the state to an end.

    A row has a list of next states for each column. Several states together have the binary digits of
    all of them. With equal signs, the same sequences of column numbers lead to ends. So a machine that
    comes from guessing letters does not get a state for each way in which the guesses can meet, of
    which only few differ.
    """
    groups = _groups(rows, ends)
    if groups is None:
        return [1 << state for state in range(len(rows))]
    return [int("0" + "".join([group[state] for group in groups]), 2) for state in range(len(rows))]


def _groups(rows, ends):
    """Return the groups of sequences of column numbers that lead to ends from the same states, or None.

    A group is a string with 1 or 0 for each state, and at least one 1. None means that there are too
    many groups.
    """
    digits = [1 << state for state in range(len(rows))][::-1]
    many = len(rows[0])
    masks = [[sum([digits[later] for later in row[column]]) for row in rows] for column in range(many)]
    waiting = ["".join([str(end) for end in ends])]
    found = {waiting[0]: True}
    while waiting != []:
        if len(found) > MOST_GROUPS or len(found) * len(rows) > MOST_DIGITS:
            return None
        group = int(waiting.pop(), 2)
        for own in masks:
            earlier = "".join(["1" if mask & group != 0 else "0" for mask in own])
            if earlier not in found:
                found[earlier] = True
                waiting.append(earlier)
    return [group for group in found if "1" in group]


def _lively_states(moves, ends):
    """Return a dict whose keys are the states from which an end can be reached."""
    before = {state: [] for state in range(len(moves))}
    for state, row in enumerate(moves):
        for move in sorted(set(row)):
            if move != -1:
                before[move].append(state)
    waiting = [state for state, end in enumerate(ends) if end == 1]
    lively = {}
    while waiting != []:
        state = waiting.pop()
        if state not in lively:
            lively[state] = True
            waiting.extend(before[state])
    return lively


def _classes(moves, ends):
    """Return a number for each state; states from which the same sequences lead to ends have equal numbers."""
    classes = list(ends)
    many = 0
    while True:
        numbers = {}
        signs = [(own, *[-1 if move == -1 else classes[move] for move in row]) for own, row in zip(classes, moves)]
        classes = [numbers.setdefault(sign, len(numbers)) for sign in signs]
        if len(numbers) == many:
            return classes
        many = len(numbers)
