import ast
import pathlib
import unittest

import arrowturns

FOLDER = pathlib.Path(arrowturns.__file__).parent


class NoClockNoChanceNoFiles(unittest.TestCase):
    def test_the_package_draws_from_its_own_files_alone(self):
        files = sorted(FOLDER.rglob("*.py"))
        self.assertTrue(files)
        for file in files:
            for node in ast.walk(ast.parse(file.read_text(encoding="utf-8"))):
                self.assertNotIsInstance(node, ast.Import, file)
                if isinstance(node, ast.ImportFrom):
                    self.assertEqual((node.level, node.module.split(".")[0]), (0, "arrowturns"), file)

    def test_the_package_opens_nothing(self):
        for file in FOLDER.rglob("*.py"):
            names = {node.id for node in ast.walk(ast.parse(file.read_text(encoding="utf-8")))
                     if isinstance(node, ast.Name)}
            self.assertFalse(names & {"open", "input", "print", "eval", "exec", "__import__"}, file)


if __name__ == "__main__":
    unittest.main()
