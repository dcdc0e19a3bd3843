"""Headsgrow: trees whose heads are cut and grow back, and their worths."""
