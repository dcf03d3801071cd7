"""A day of flights that goes wrong: when each flight leaves and arrives, who's seated where, who's owed what."""
