"""A day of flights that goes wrong: when each flight leaves and arrives as things stand, and why."""
