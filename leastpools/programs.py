"""Programs: pools, and the jobs that take from them [6]."""

from leastpools.codes import Codes
from leastpools.errors import InvalidProgram, NoJob
from leastpools.names import is_name
from leastpools.values import all_differ, is_between

MOST_POOLS = 4
MOST_JOBS = 4
GREATEST_LIMIT = 6


def are_names(names):
    """Whether all values of a list are names, and none is there twice."""
    return all([is_name(name) for name in names]) and all_differ(names)


def are_pools(thing):
    """Whether a value is the pools of a program."""
    return isinstance(thing, tuple) and 1 <= len(thing) <= MOST_POOLS and are_names(list(thing))


def is_job(thing):
    """Whether a value is a job, but for its name and for what its code says."""
    if not isinstance(thing, tuple) or len(thing) != 3:
        return False
    return is_between(thing[1], 0, GREATEST_LIMIT) and isinstance(thing[2], tuple)


def are_jobs(thing):
    """Whether a value is the jobs of a program, but for what their codes say."""
    if not isinstance(thing, tuple) or not 1 <= len(thing) <= MOST_JOBS:
        return False
    return all([is_job(job) for job in thing]) and are_names([job[0] for job in thing])


def codes_by_name(pools, jobs):
    """A dict from the names of the jobs to what can be told of their codes."""
    told = {}
    codes = Codes(pools)
    for index, (name, _, code) in enumerate(jobs):
        made = codes.learn(name, code)
        if made is None:
            raise InvalidProgram(index)
        told[name] = made
    return told


class Program:
    """Pools and jobs that take from them."""

    def __init__(self, pools, jobs):
        if not are_pools(pools):
            raise InvalidProgram("pools")
        if not are_jobs(jobs):
            raise InvalidProgram("jobs")
        self._pools = pools
        self._jobs = jobs
        self._codes = codes_by_name(pools, jobs)
        self._limits = {name: limit for name, limit, _ in jobs}

    @property
    def pools(self):
        """The names of the pools."""
        return self._pools

    @property
    def jobs(self):
        """Tuples (name, limit, code)."""
        return self._jobs

    def __contains__(self, x):
        return isinstance(x, str) and x in self._codes

    def __len__(self):
        return len(self._jobs)

    def __eq__(self, other):
        return isinstance(other, Program) and self._pools == other._pools and self._jobs == other._jobs

    def names(self):
        """The names of the jobs, in order."""
        return [job[0] for job in self._jobs]

    def _check(self, name):
        if name not in self:
            raise NoJob(name)

    def limit(self, name):
        """How many jobs of a name may be there at a time."""
        self._check(name)
        return self._limits[name]

    def with_limit(self, name, limit):
        """The program with another limit of a job."""
        self._check(name)
        return Program(self._pools, tuple([changed(job, name, limit, job[2]) for job in self._jobs]))

    def with_code(self, name, code):
        """The program with another code of a job."""
        self._check(name)
        return Program(self._pools, tuple([changed(job, name, job[1], code) for job in self._jobs]))

    def code(self, name):
        """What can be told of the code of a job."""
        self._check(name)
        return self._codes[name]


def changed(job, name, limit, code):
    """A job; with this limit and code if it has the name."""
    if job[0] != name:
        return job
    return (name, limit, code)


def check_program(program):
    """Raise InvalidProgram unless a value is a Program."""
    if not isinstance(program, Program):
        raise InvalidProgram(program)
