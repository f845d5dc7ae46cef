"""Labels of functions, and what a planner may do by them."""
