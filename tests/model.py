"""A plain tree told a second time, as plainly as possible: each deed is tried on a copy whose needs are then counted.

The tests compare Plain with it over long rows of deeds.
"""

import copy


class Refused(Exception):
    pass


def refuse_if(condition, word):
    if condition:
        raise Refused(word)


class Model:
    def __init__(self, room):
        self.room = room
        # The nodes by numbers: a dict of entries for a folder, a list of words for a file. The root is 0.
        self.nodes = {0: {}}
        self.fresh = 1
        self.held = {}

    def do(self, deed):
        trial = copy.deepcopy(self)
        try:
            worth = getattr(trial, "do_" + deed[0])(*deed[1:])
            refuse_if(trial.needs() > self.room, "room")
        except Refused as refusal:
            return ("refused", str(refusal))
        self.__dict__ = trial.__dict__
        return ("done", worth)

    def order(self):
        """The numbers of the nodes in the order of a picture."""
        order = []
        coming = [0]
        while coming:
            number = coming.pop(0)
            if number not in order:
                order.append(number)
                node = self.nodes[number]
                coming.extend([node[name] for name in sorted(node)] if isinstance(node, dict) else [])
        return order

    def picture(self):
        order = self.order()
        items = []
        for number in order:
            node = self.nodes[number]
            if isinstance(node, dict):
                items.append(("folder", tuple((name, order.index(node[name])) for name in sorted(node))))
            else:
                items.append(("file", tuple(node)))
        return tuple(items)

    def needs(self):
        total = 0
        for number in set(self.order()) | set(self.held.values()):
            node = self.nodes[number]
            many, part = len(node), 3 if isinstance(node, dict) else 28
            total += 1 + many // part + (many % part > 0)
        return total

    def handles(self):
        return tuple(sorted(self.held))

    def fallen(self):
        other = copy.deepcopy(self)
        other.held = {}
        return other

    def find(self, path):
        number = 0
        for name in path:
            node = self.nodes[number]
            refuse_if(not isinstance(node, dict) or name not in node, "no path")
            number = node[name]
        return number

    def find_file(self, path):
        number = self.find(path)
        refuse_if(isinstance(self.nodes[number], dict), "no file")
        return number

    def find_place(self, path):
        number = self.find(path[:-1])
        refuse_if(not isinstance(self.nodes[number], dict), "no path")
        return self.nodes[number]

    def find_held(self, handle):
        refuse_if(handle not in self.held, "no handle")
        return self.held[handle]

    def add(self, path, node):
        refuse_if(path == (), "there")
        place = self.find_place(path)
        refuse_if(path[-1] in place, "there")
        refuse_if(len(place) == 12, "crowded")
        if not isinstance(node, int):
            self.nodes[self.fresh] = node
            node = self.fresh
            self.fresh += 1
        place[path[-1]] = node

    def links(self, number):
        folders = [node for node in self.nodes.values() if isinstance(node, dict)]
        return sum(list(node.values()).count(number) for node in folders)

    def told(self, number):
        node = self.nodes[number]
        return ("folder", len(node), 1) if isinstance(node, dict) else ("file", len(node), self.links(number))

    def put(self, number, at, words):
        node = self.nodes[number]
        refuse_if(at > len(node), "gap")
        node[at:at + len(words)] = words
        refuse_if(len(node) > 336, "long")
        return len(node)

    def shorten(self, number, size):
        refuse_if(size > len(self.nodes[number]), "long")
        del self.nodes[number][size:]

    def do_folder(self, path):
        self.add(path, {})

    def do_make(self, path):
        self.add(path, [])

    def do_write(self, path, at, words):
        return self.put(self.find_file(path), at, words)

    def do_cut(self, path, size):
        self.shorten(self.find_file(path), size)

    def do_read(self, path, at, many):
        return tuple(self.nodes[self.find_file(path)])[at:][:many]

    def do_list(self, path):
        node = self.nodes[self.find(path)]
        refuse_if(not isinstance(node, dict), "no folder")
        return tuple(sorted(node))

    def do_stat(self, path):
        return self.told(self.find(path))

    def do_link(self, path, new):
        self.add(new, self.find_file(path))

    def do_rename(self, path, new):
        refuse_if(path == () or new == (), "root")
        number = self.find(path)
        place, source = self.find_place(new), self.find_place(path)
        folder = isinstance(self.nodes[number], dict)
        refuse_if(folder and path != new and path == new[:len(path)], "within")
        if new[-1] in place:
            old = self.nodes[place[new[-1]]]
            if place[new[-1]] == number:
                return
            refuse_if(isinstance(old, dict) != folder, "there")
            refuse_if(folder and len(old) > 0, "not empty")
        else:
            refuse_if(len(place) == 12 and place is not source, "crowded")
        del source[path[-1]]
        place[new[-1]] = number

    def do_remove(self, path):
        refuse_if(path == (), "root")
        node = self.nodes[self.find(path)]
        refuse_if(isinstance(node, dict) and len(node) > 0, "not empty")
        del self.find_place(path)[path[-1]]

    def do_open(self, path):
        number = self.find_file(path)
        left = [handle for handle in range(8) if handle not in self.held]
        refuse_if(not left, "handles")
        self.held[left[0]] = number
        return left[0]

    def do_close(self, handle):
        self.find_held(handle)
        del self.held[handle]

    def do_hwrite(self, handle, at, words):
        return self.put(self.find_held(handle), at, words)

    def do_hcut(self, handle, size):
        self.shorten(self.find_held(handle), size)

    def do_hread(self, handle, at, many):
        return tuple(self.nodes[self.find_held(handle)])[at:][:many]

    def do_hstat(self, handle):
        return self.told(self.find_held(handle))

    def do_force(self):
        pass

    def do_root(self):
        pass

    def do_clean(self, segments):
        pass
