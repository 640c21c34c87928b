"""Oneofeach: censuses of finite structures, complete and without repetition."""
