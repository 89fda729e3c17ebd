"""Liftwave: pictures told bit row by bit row, cut off anywhere."""
