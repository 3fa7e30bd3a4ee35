"""Words of letters and their backs, where deep brackets count as nothing."""
