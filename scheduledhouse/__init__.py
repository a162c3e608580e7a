"""Building by workers under a schedule."""
