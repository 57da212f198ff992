"""The densest part of a web, and all its layers."""
