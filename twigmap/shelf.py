"""The shelf: keeps twigs by their numbers for as long as somebody holds them."""

from twigmap.errors import NoLeaf, NoStem, NotHeld, NoTwig, Shared
from twigmap.twigs import HEIGHT, Twig, checked_rows, label_of_rows, label_over


class Shelf:
    def __init__(self):
        self.kept = {}
        self.following = 0
        self.looks = []

    def put_leaf(self, rows):
        own = checked_rows(rows)
        return self.put_twig(own, label_of_rows(own))

    def put_stem(self, numbers):
        branches = list(numbers)
        label = label_over(self.labels_of(branches))
        self.check_held(branches)
        number = self.put_twig(branches, label)
        self.take_over(number, branches)
        return number

    def put_twig(self, things, label):
        number = self.following
        self.following = number + 1
        self.kept[number] = Twig(things, label)
        return number

    def hold(self, number):
        twig = self.twig_of(number)
        twig.holds += 1

    def let_go(self, number):
        self.check_held([number])
        twig = self.twig_of(number)
        twig.holds -= 1
        self.drop_unheld(number)

    # As a twig goes it holds its branches no more, so these may have to go as well.
    def drop_unheld(self, number):
        if self.holders(number) > 0:
            return
        twig = self.kept.pop(number)
        if is_stem(twig):
            for branch in twig.things:
                self.twig_of(branch).above.remove(number)
                self.drop_unheld(branch)

    def holders(self, number):
        twig = self.twig_of(number)
        return len(twig.above) + twig.holds

    def outside(self, number):
        return self.twig_of(number).holds

    def alone(self, number):
        try:
            self.road_up(number)
        except Shared:
            return False
        return True

    def change_leaf(self, number, rows):
        twig = self.twig_of(number)
        if is_stem(twig):
            raise NoLeaf()
        road = self.road_up(number)
        own = checked_rows(rows)
        try:
            labels = self.labels_up(road, label_of_rows(own))
        except NoStem:
            raise NoLeaf() from None
        twig.things = own
        self.give_labels(labels)

    # No stem can come to stand under itself so: its branches are less high than it is.
    def change_stem(self, number, numbers):
        twig = self.twig_of(number)
        if not is_stem(twig):
            raise NoStem()
        road = self.road_up(number)
        old = twig.things
        branches = list(numbers)
        label = label_over(self.labels_of(branches))
        if label[HEIGHT] != twig.tag[HEIGHT]:
            raise NoStem()
        labels = self.labels_up(road, label)
        new = [branch for branch in branches if branch not in old]
        self.check_held(new)
        twig.things = branches
        self.give_labels(labels)
        self.take_over(number, new)
        self.give_back(number, [branch for branch in old if branch not in branches])

    def look(self, number):
        twig = self.twig_of(number)
        self.looks.append(number)
        if is_stem(twig):
            return ("stem", list(twig.things))
        return ("leaf", list(twig.things))

    def label(self, number):
        return self.twig_of(number).tag

    def looked(self):
        return list(self.looks)

    def forget(self):
        self.looks = []

    def numbers(self):
        return sorted(self.kept)

    def many(self):
        return len(self.kept)

    def twig_of(self, number):
        if number not in self.kept:
            raise NoTwig(number)
        return self.kept[number]

    def labels_of(self, numbers):
        return [self.label(number) for number in numbers]

    def check_held(self, numbers):
        for number in numbers:
            if self.outside(number) == 0:
                raise NotHeld(number)

    # The stem becomes a holder of each branch in the stead of a hold from without; give_back turns it about.
    def take_over(self, stem, branches):
        for branch in branches:
            twig = self.twig_of(branch)
            twig.holds -= 1
            twig.above.append(stem)

    def give_back(self, stem, branches):
        for branch in branches:
            twig = self.twig_of(branch)
            twig.holds += 1
            twig.above.remove(stem)

    # The twig, its holder, that one's holder, and so on: all that a change of the twig has to relabel.
    def road_up(self, number):
        road = [number]
        while True:
            if self.holders(road[-1]) > 1:
                raise Shared(road[-1])
            above = self.twig_of(road[-1]).above
            if above == []:
                return road
            road.append(above[0])

    # The labels that the twigs of a road would have if its first one had this label. They are told
    # ahead of the change, as they may show that it can't be.
    def labels_up(self, road, label):
        labels = {road[0]: label}
        for stem in road[1:]:
            branches = self.twig_of(stem).things
            labels[stem] = label_over([labels.get(branch, self.label(branch)) for branch in branches])
        return labels

    def give_labels(self, labels):
        for number in labels:
            twig = self.twig_of(number)
            twig.tag = labels[number]


def is_stem(twig):
    return twig.tag[HEIGHT] > 0
