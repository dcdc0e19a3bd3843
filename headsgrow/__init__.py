"""Headsgrow: trees whose heads are cut and grow back, and numbers written by a base that grows."""
