"""Certificates of forms are checked here; no history is run, and nothing is searched."""

from evenends.courses import is_course, is_course_for
from evenends.forks import Forks
from evenends.forms import Form
from evenends.names import is_integer
from evenends.residues import MOST
from evenends.scales import TableScale
from evenends.vectors import Vector
from evenends.wirekeys import door_kinds, is_kind_key, is_pair_key
from evenends.worthcheck import are_worths


def shows_form(net, form, paper):
    """Whether any value shows that another one is the form of a net."""
    if not isinstance(form, Form) or not isinstance(paper, tuple) or len(paper) != 4:
        return False
    worths, begins, closed, opened = paper
    if not are_tables(net, worths, begins):
        return False
    scale = scale_for(net, form.lattice, worths, begins)
    points = {key: points_on(scale, begins[key]) for key in begins}
    if not keep_rules(net, worths, points, scale):
        return False
    return (are_closed(net, form.lattice, closed) and are_opened(net, form, opened)
            and are_told(form, points, scale))


def are_tables(net, worths, begins):
    """Whether any two values are dicts as they should be: of vectors by pairs, and of vectors by kinds at wires."""
    if not isinstance(worths, dict) or not isinstance(begins, dict):
        return False
    if not all([is_pair_key(net, key) and isinstance(worths[key], Vector) for key in worths]):
        return False
    return all([is_kind_key(net, key) and are_few_vectors(begins[key]) for key in begins])


def are_few_vectors(value):
    """Whether any value is a list or tuple of vectors, and not of too many."""
    if not isinstance(value, (list, tuple)) or len(value) > MOST:
        return False
    return all([isinstance(vector, Vector) for vector in value])


def scale_for(net, lattice, worths, begins):
    """The scale of a lattice at all names that are told."""
    vectors = [worths[key] for key in worths]
    for key in begins:
        vectors.extend(begins[key])
    names = [name for vector in vectors for name in vector.names]
    return TableScale(lattice, tuple(sorted(set([*net.tallies, *lattice.names, *names]))))


def points_on(scale, vectors):
    """A dict whose keys are the worths of vectors, each once."""
    return {scale.worth(vector): True for vector in vectors}


def keep_rules(net, worths, points, scale):
    """Whether the worths of pairs, and the begins as points, keep to the rules on a scale."""
    forks = Forks(net)
    if not are_worths(forks, {key: scale.worth(worths[key]) for key in worths}, scale):
        return False
    return are_begins(forks, points, scale)


def are_begins(forks, points, scale):
    """Whether all begins of the kinds at the wires are told."""
    if not all([key in points for key in door_kinds(forks.net)]):
        return False
    return all([has_begins(forks, points, key, scale) for key in points])


def has_begins(forks, points, key, scale):
    """Whether the begins of a kind at a wire are told, if those behind the wire are."""
    wire, kind = key
    if forks.ends[wire] is not None:
        return scale.at_tally(forks.ends[wire], kind, None) in points[key]
    return all([has_sums(points, key, below, scale) for _, below in forks.rows_for(key)])


def has_sums(points, key, below, scale):
    """Whether each sum of one point for each of the keys below is a point of a key."""
    if not all([other in points for other in below]):
        return False
    sums = sums_of(scale, [points[other] for other in below], MOST)
    return len(sums) <= MOST and all([point in points[key] for point in sums])


def sums_of(scale, rows, most):
    """A dict whose keys are the sums of one point of each row; not all of them, if there are more than most."""
    sums = {scale.total([]): None}
    for row in rows:
        sums = scale.totals(list(sums), list(row), most)
        # Each further row only moves these sums, so there would be too many at the end, too.
        if len(sums) > most:
            return sums
    return sums


def are_closed(net, lattice, closed):
    """Whether any value tells for each basis vector courses that add up to it."""
    if not isinstance(closed, tuple) or len(closed) != lattice.rank:
        return False
    return all([adds_up_to(net, told, vector) for told, vector in zip(closed, lattice.basis)])


def adds_up_to(net, told, vector):
    """Whether any value is a tuple of tuples (times, course) that add up to a vector."""
    return are_times_courses(net, told) and sum_of_drifts(told) == vector


def are_times_courses(net, value):
    """Whether any value is a tuple of tuples (times, course)."""
    return isinstance(value, tuple) and all([is_times_course(net, part) for part in value])


def sum_of_drifts(closed):
    """The sum of the products of times and drift of tuples (times, course)."""
    total = Vector.zero()
    for times, course in closed:
        total = total + course.drift * times
    return total


def is_times_course(net, value):
    """Whether any value is a tuple of an integer from 1 on and a course of a net."""
    if not isinstance(value, tuple) or len(value) != 2:
        return False
    return is_times(value[0]) and is_course(net, value[1])


def is_times(value):
    """Whether any value is an integer from 1 on."""
    return is_integer(value) and value >= 1


def are_opened(net, form, opened):
    """Whether any value tells for each residue of a form a course whose begin has it."""
    residues = form.residues
    if list(residues) != door_kinds(net) or not isinstance(opened, dict) or len(opened) != len(residues):
        return False
    return all([key in opened and have_residues(net, form, key, opened[key]) for key in residues])


def have_residues(net, form, key, value):
    """Whether any value is a tuple of courses of a door and kind with the residues that a form tells."""
    residues = form.residues[key]
    if not isinstance(value, tuple) or len(value) != len(residues):
        return False
    if not all([is_course_for(net, key, course) for course in value]):
        return False
    return all([form.lattice.reduced(course.begin) == residue for course, residue in zip(value, residues)])


def are_told(form, points, scale):
    """Whether all points that are told for a door and kind are residues of a form."""
    residues = form.residues
    right = {key: points_on(scale, residues[key]) for key in residues}
    return all([point in right[key] for key in residues for point in points[key]])
