"""Roadbook: journeys planned by lines, days, walks and tickets."""
