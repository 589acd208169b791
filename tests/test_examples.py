"""The examples of the document, stage by stage, answer as they are printed there."""

import doctest
import pathlib
import unittest

FOLDER = pathlib.Path(__file__).parent / "examples"


def told_error(error):
    """An error as the document prints it."""
    fields = ", ".join(f"{name}={value!r}" for name, value in vars(error).items())
    return f"raises {type(error).__name__}({fields})"


def answer(example, names):
    """What an example prints: the value of its line, or its error."""
    try:
        return repr(eval(example.source, names))
    except ValueError as error:
        return told_error(error)


class Examples(unittest.TestCase):
    def run_file(self, path, names):
        for example in doctest.DocTestParser().get_examples(path.read_text(), path.name):
            with self.subTest(file=path.name, line=example.source):
                if example.want:
                    self.assertEqual(answer(example, names), example.want.strip())
                else:
                    exec(example.source, names)

    def test_stages(self):
        stages = sorted(FOLDER.glob("stage_*.txt"), key=lambda path: int(path.stem.split("_")[1]))
        self.assertTrue(stages)
        # As in the document, what a stage imports or names is there in later ones, too.
        names = {}
        self.run_file(FOLDER / "plans.txt", names)
        for path in stages:
            self.run_file(path, names)


if __name__ == "__main__":
    unittest.main()
