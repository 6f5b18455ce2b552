"""Disks: files as rows of bytes, and what a fall at any step leaves of them."""

from pillarstore.errors import NoFile


class Disk:
    """Files by names. All deeds are kept too, so that it can be told how the disk was behind any step."""

    def __init__(self):
        self.bytes_by_name = {}
        self.deeds_done = []
        self.steps_done = 0

    def make(self, name):
        """Makes an empty file, in the place of one that is there."""
        self.bytes_by_name[name] = []
        self.count_in("make", name, None, 1)

    def add(self, name, row):
        """Puts bytes behind a file's others."""
        self.require_file(name)
        self.bytes_by_name[name].extend(row)
        self.count_in("add", name, tuple(row), len(row))

    def cut(self, name, many):
        """Leaves of a file the first bytes alone, so many."""
        self.require_file(name)
        self.bytes_by_name[name] = self.bytes_by_name[name][:many]
        self.count_in("cut", name, many, 1)

    def drop(self, name):
        """A file is there no more."""
        self.require_file(name)
        del self.bytes_by_name[name]
        self.count_in("drop", name, None, 1)

    def read(self, name):
        """A file's row of bytes."""
        self.require_file(name)
        return list(self.bytes_by_name[name])

    def names(self):
        """The names of the files, in order."""
        return sorted(self.bytes_by_name)

    def steps(self):
        """How many steps were done so far."""
        return self.steps_done

    def fallen(self, k):
        """A new disk, as this one was behind its first k steps."""
        disk = Disk()
        for word, name, worth in self.deeds_done:
            left = k - disk.steps()
            if left <= 0:
                break
            if word == "make":
                disk.make(name)
            elif word == "add":
                disk.add(name, worth[:left])
            elif word == "cut":
                disk.cut(name, worth)
            else:
                disk.drop(name)
        return disk

    def count_in(self, word, name, worth, steps):
        """Keeps a deed that was done, and counts its steps."""
        self.deeds_done.append((word, name, worth))
        self.steps_done += steps

    def require_file(self, name):
        """Refuses the name of no file."""
        if name not in self.bytes_by_name:
            raise NoFile("no such file")
