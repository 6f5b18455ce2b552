"""Players: questions told step by step, each step within a room, reading no more than is asked for."""

from pillarstore.askings import Asking
from pillarstore.errors import NoMoment
from pillarstore.forms import over, places_of
from pillarstore.groupers import Grouper
from pillarstore.joiners import Joiner
from pillarstore.orderers import Orderer
from pillarstore.questions import kinds_of
from pillarstore.rooms import Parts, Room
from pillarstore.steps import FirstOnes, Gathered, Joined, Told, Where
from pillarstore.windowers import Windower


class Player:
    """The rows that a question tells of tables as they are when it is made."""

    def __init__(self, question, tables, moments, most):
        kinds_by_name = {name: table.kinds() for name, table in tables.items()}
        kinds_of(question, kinds_by_name)
        moments_by_name = {name: moments.get(name, table.now()) for name, table in tables.items()}
        require_moments(question, tables, moments_by_name)
        maker = StepMaker(tables, kinds_by_name, moments_by_name, most)
        self.last_step = maker.made(question)
        self.named_askings = maker.named_askings
        self.step_rooms = maker.step_rooms
        self.shared_parts = maker.shared_parts

    def next(self, many):
        """The list of the next rows, so many, or what is left."""
        rows = []
        while len(rows) < many:
            row = self.last_step.next()
            if row is None:
                break
            rows.append(row)
        return rows

    def peak(self):
        """The greatest peak of the rooms, 0 without any."""
        return max([room.peak() for room in self.step_rooms], default=0)

    def parts(self):
        """The numbers of the parts that are there, rising."""
        return self.shared_parts.numbers()

    def reads(self):
        """The list of (name, heap, place, stretch) as they were read so far, Asking by Asking."""
        return [(name, *read) for name, asking in self.named_askings for read in asking.reads()]


def require_moments(question, tables, moments_by_name):
    """Refuses moments that can not be asked of, of the tables in a question."""
    for name in names_in(question):
        table = tables[name]
        if not table.oldest() <= moments_by_name[name] <= table.now():
            raise NoMoment(f"no such moment of {name}")


def names_in(question):
    """The names of the tables in a question, as it names them."""
    word = question[0]
    if word == "table":
        return [question[1]]
    if word in ("joined", "kept"):
        return names_in(question[1]) + names_in(question[2])
    return names_in(question[1])


class StepMaker:
    """Makes the steps of one question, and gathers the Askings, rooms and parts that they work on."""

    def __init__(self, tables, kinds_by_name, moments_by_name, most):
        self.tables_by_name = tables
        self.kinds_by_name = kinds_by_name
        self.moments_by_name = moments_by_name
        self.most_rows = most
        self.shared_parts = Parts()
        self.step_rooms = []
        self.named_askings = []

    def made(self, question):
        """The step that tells a question's rows."""
        word = question[0]
        if is_of_table(question):
            return self.asked(question, None)
        if word == "told":
            return self.told_step(question[1], question[2])
        if word in ("joined", "kept"):
            return self.joined_step(question)
        inner = self.made(question[1])
        if word == "where":
            return Where(inner, question[2])
        room = self.new_room()
        if word == "grouped":
            return Gathered(inner, Grouper(question[2], question[3], room, self.shared_parts))
        if word == "windowed":
            return Gathered(inner, Windower(question[2], question[3], question[4], room, self.shared_parts))
        orderer = Orderer(question[2], self.most_rows, room, self.shared_parts)
        return Gathered(inner, orderer) if question[3] is None else FirstOnes(inner, orderer, question[3])

    def asked(self, question, places):
        """An Asking of a table, by the test of a where straight around it; places None are all."""
        if question[0] == "where":
            name, test = question[1][1], question[2]
        else:
            name, test = question[1], ("always",)
        if places is None:
            places = list(range(len(self.kinds_by_name[name])))
        asking = Asking(self.tables_by_name[name], self.moments_by_name[name], test, places)
        self.named_askings.append((name, asking))
        return asking

    def told_step(self, inner, forms):
        """The step of a told; straight over a table it takes no other cells than its forms name."""
        if not is_of_table(inner):
            return Told(self.made(inner), forms)
        places = places_of(forms)
        return Told(self.asked(inner, places), [over(form, places) for form in forms])

    def joined_step(self, question):
        """The step of a joined or kept."""
        one = self.made(question[1])
        other = self.made(question[2])
        wide = len(kinds_of(question[2], self.kinds_by_name))
        joiner = Joiner(question[3], question[0] == "kept", wide, self.new_room(), self.shared_parts)
        return Joined(one, other, joiner)

    def new_room(self):
        """A room for one step."""
        room = Room(self.most_rows)
        self.step_rooms.append(room)
        return room


def is_of_table(question):
    """Whether a question is a table, or a where straight over one."""
    return question[0] == "table" or question[0] == "where" and question[1][0] == "table"
