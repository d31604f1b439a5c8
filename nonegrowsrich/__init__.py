"""Nonegrowsrich: shares told each day that no told doubter ever beats."""
