"""What properties and operators of the package run, found by the names that are called and read there."""

import ast

OPERATORS = ("__contains__", "__getitem__", "__bool__", "__eq__", "__str__", "__len__", "__lt__", "__add__")
MODIFYING = "append extend insert pop remove clear sort reverse update setdefault add discard".split()
CREATING = ("list", "dict", "sorted")


class Package:
    """The functions, methods and properties of the package by their names."""

    def __init__(self, trees):
        self.functions, self.classes, self.methods, self.properties, self.roots = {}, {}, {}, {}, []
        for path, tree in trees:
            for node in tree.body:
                if isinstance(node, ast.FunctionDef):
                    self.functions[path, node.name] = (path, node)
                if isinstance(node, ast.ClassDef):
                    self.add_class(path, node)
        for path, tree in trees:
            for node in tree.body:
                if isinstance(node, ast.ImportFrom):
                    for alias in node.names:
                        for kept in (self.functions, self.classes):
                            for (other, name), place in list(kept.items()):
                                if name == alias.name and other.as_posix().endswith(node.module.replace(".", "/") + ".py"):
                                    kept[path, name] = place

    def add_class(self, path, owner):
        for node in owner.body:
            if isinstance(node, ast.FunctionDef):
                told = [each.id for each in node.decorator_list if isinstance(each, ast.Name)]
                kept = self.properties if "property" in told else self.methods
                kept.setdefault(node.name, []).append((path, node))
                if "property" in told or node.name in OPERATORS:
                    self.roots.append((path, owner.name, node))
            if isinstance(node, ast.FunctionDef) and node.name == "__init__":
                self.classes[path, owner.name] = (path, node)

    def run_by(self, path, node):
        """The functions that this one runs, by the names in it."""
        found = []
        for each in ast.walk(node):
            if isinstance(each, ast.Name) and (path, each.id) in self.functions:
                found.append(self.functions[path, each.id])
            if isinstance(each, ast.Call) and isinstance(each.func, ast.Name) and (path, each.func.id) in self.classes:
                found.append(self.classes[path, each.func.id])
            if isinstance(each, ast.Attribute):
                found.extend(self.properties.get(each.attr, ()))
            if isinstance(each, ast.Call) and isinstance(each.func, ast.Attribute):
                found.extend(self.methods.get(each.func.attr, ()))
        return found

    def all_run_by(self, path, node):
        """All functions that run if this one does."""
        found, at = [(path, node)], 0
        while at < len(found):
            found.extend(each for each in self.run_by(*found[at]) if each not in found)
            at += 1
        return found


def own_lists(node):
    """The local names that are assigned lists and dicts which the function itself creates, and nothing else."""
    assigned = {}
    for each in ast.walk(node):
        if isinstance(each, ast.Assign):
            for target in each.targets:
                if isinstance(target, ast.Name):
                    assigned.setdefault(target.id, []).append(each.value)
    made = (ast.List, ast.ListComp, ast.Dict)
    return [name for name, values in assigned.items() if all(isinstance(value, made) or (
        isinstance(value, ast.Call) and isinstance(value.func, ast.Name) and value.func.id in CREATING) for value in values)]


def base_of(node):
    """The name behind indexes."""
    while isinstance(node, ast.Subscript):
        node = node.value
    return node.id if isinstance(node, ast.Name) else None


def faults(node):
    """What an operator or a property may not run."""
    own, found = own_lists(node), []
    for each in ast.walk(node):
        if isinstance(each, (ast.Yield, ast.YieldFrom, ast.Global, ast.Nonlocal, ast.Delete)):
            found.append(type(each).__name__)
        if isinstance(each, (ast.Attribute, ast.Subscript)) and not isinstance(each.ctx, ast.Load):
            if not isinstance(each, ast.Subscript) or base_of(each) not in own:
                found.append(ast.unparse(each))
        if isinstance(each, ast.AugAssign) and not isinstance(each.value, ast.Constant):
            found.append(ast.unparse(each))
        if isinstance(each, ast.Call) and isinstance(each.func, ast.Attribute) and each.func.attr in MODIFYING:
            if base_of(each.func.value) not in own:
                found.append(ast.unparse(each))
    return found
