"""Machines, the constraints of the kind words: columns, reading, and machines side by side."""

from shadowlinks.names import merge_names


def column_numbers(names, assignment):
    """Return the numbers of the columns of the words of the names, one for each index of the words."""
    words = [assignment[name] for name in names]
    return tuple([_number_of([word[index] for word in words]) for index in range(assignment[""])])


def run(machine, numbers):
    """Read the column numbers and return the last state, or -1."""
    state = 0
    for number in numbers:
        # The state -1 would be read as the last one.
        if state != -1:
            state = machine[1][state][number]
    return state


def own_columns(own, names):
    """Return for each column of the names the number of the letters of the own names, which are some of them."""
    places = [len(names) - 1 - names.index(name) for name in own]
    return [_number_of(["ab"[column >> place & 1] for place in places]) for column in range(1 << len(names))]


def spread_moves(machine, names):
    """Return the moves of the machine for the columns of the names, to which its own names belong."""
    numbers = own_columns(machine[0], names)
    return [[row[number] for number in numbers] for row in machine[1]]


def rearranged_machine(machine, table):
    """Return the machine with other names and the columns in their order; the dict has the new names."""
    names, _, ends = machine
    renamed = tuple([table.get(name, name) for name in names])
    ascending = merge_names(renamed)
    moves = spread_moves((renamed, *machine[1:]), ascending)
    return ascending, tuple([tuple(row) for row in moves]), ends


def joined_machine(names, machines):
    """Return the machine over the names that holds where all of the machines, at least one, hold."""
    tables = [spread_moves(machine, names) for machine in machines]
    order = [tuple([0 for _ in machines])]
    numbers = {order[0]: 0}
    moves = []
    while len(moves) < len(order):
        row = []
        for states in next_states(tables, order[len(moves)]):
            if -1 in states:
                row.append(-1)
            else:
                if states not in numbers:
                    numbers[states] = len(order)
                    order.append(states)
                row.append(numbers[states])
        moves.append(tuple(row))
    return names, tuple(moves), tuple([1 if all_end(machines, own) else 0 for own in order])


def next_states(tables, states):
    """Return for each column the next states of the machines, at least one, with these tables of moves."""
    rows = [table[state] for table, state in zip(tables, states)]
    return list(zip(*rows))


def all_end(machines, states):
    """Return True if the states of the machines are ends, otherwise False."""
    return all([machine[2][state] == 1 for machine, state in zip(machines, states)])


def least_ground(machines):
    """Return the least ground for which the machines, which have no names, hold, or None if there is none."""
    states = tuple([0 for _ in machines])
    seen = {}
    while states not in seen:
        if all_end(machines, states):
            return len(seen)
        seen[states] = True
        states = tuple([machine[1][state][0] for machine, state in zip(machines, states)])
        if -1 in states:
            return None
    return None


def names_of(machines):
    """Return the names whose words one of the machines reads, in ascending order."""
    lists = [machine[0] for machine in machines]
    return merge_names(*lists)


def many_states(machines):
    """Return how many states the machines have at most when they are joined."""
    many = 1
    for machine in machines:
        many = many * len(machine[1])
    return many


def connected_machines(machines):
    """Return the machines in groups, so that machines of different groups share no names."""
    groups = []
    for machine in machines:
        near, far = [machine], []
        for group in groups:
            if any([name in machine[0] for name in names_of(group)]):
                near = [*group, *near]
            else:
                far.append(group)
        groups = [*far, near]
    return groups


def _number_of(letters):
    """Return the number of the column with the letters."""
    number = 0
    for letter in letters:
        number = 2 * number + (1 if letter == "b" else 0)
    return number
