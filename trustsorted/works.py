"""Works: rows of files and tools, what they make, and their first tool that can be deceived."""

from trustsorted.checks import check_full, check_seen, is_file, is_integer, is_told
from trustsorted.errors import BadLoad, NoFile
from trustsorted.houses import told_listed
from trustsorted.steps import read_steps, tool_of
from trustsorted.tools import done_by
from trustsorted.trust import Judge, is_deceived


class Work:
    """A row of files and tools, as a text tells them.

    `parts` are the steps of its lines.
    """

    def __init__(self, house, text):
        steps, promises = read_steps(house, text)
        self.house = house
        self.text = text
        self.parts = steps
        self.names = tuple([step.name for step in steps])
        self.inputs = tuple([step.name for step in steps if step.word == "file"])
        self._promises = promises

    def promise(self, name):
        """The promise of a file."""
        if name not in self or self._promises[name] is None:
            raise NoFile(name)
        return self._promises[name]

    def tool(self, name):
        """The tool of the line with a name, None for file and sort."""
        if name not in self:
            raise NoFile(name)
        return tool_of(self.parts[self.names.index(name)])

    def __len__(self):
        return len(self.names)

    def __contains__(self, value):
        return isinstance(value, str) and value in self.names

    def __eq__(self, other):
        return isinstance(other, Work) and self.house == other.house and self.text == other.text


def are_files(work, value):
    """Whether any value is a tuple of a file for each of the inputs of a work."""
    if not isinstance(value, tuple) or len(value) != len(work.inputs):
        return False
    return all([is_file(work.house, rows) for rows in value])


def results(work, files):
    """What each line of a work is, if its inputs are these files."""
    check_full(work.house)
    if not are_files(work, files):
        raise BadLoad(files)
    given = dict(zip(work.inputs, files))
    made = {}
    for step in work.parts:
        load = [made[name] for name in step.froms]
        if step.word == "file":
            made[step.name] = given[step.name]
        elif step.word == "sort":
            made[step.name] = told_listed(work.house, step.rule, load[0])
        else:
            made[step.name] = done_by(work.house, tool_of(step), load)
    return tuple([made[name] for name in work.names])


def question_of(work, step):
    """The promises of the FROMs of a step, and its tool."""
    return tuple([work.promise(name) for name in step.froms]), tool_of(step)


def first_weak(work, judge):
    """What weak tells, as a judge of what was seen tells it."""
    for number, step in enumerate(work.parts, start=1):
        promises, tool = question_of(work, step)
        if tool is not None:
            told = judge.verdict(promises, tool)
            if told[0] == "deceived":
                return ("weak", number) + told[1:]
    return ("sound",)


def weak(work, seen):
    """The first line of a work whose tool can be deceived, with a world and a least load."""
    check_seen(work.house, seen)
    return first_weak(work, Judge(work.house, seen))


def is_weak(work, judge, value):
    """Whether any value is what weak tells, with any such world and load."""
    told = first_weak(work, judge)
    if not is_told(value, len(told), told[0]):
        return False
    if len(told) == 1:
        return True
    if not is_integer(value[1]) or value[1] != told[1]:
        return False
    promises, tool = question_of(work, work.parts[told[1] - 1])
    return is_deceived(judge, promises, tool, value[2], value[3])


def shows_weak(work, seen, value):
    """Whether any value is what weak tells, with any such world and load."""
    check_seen(work.house, seen)
    return is_weak(work, Judge(work.house, seen), value)
