package world_test

import (
	"testing"

	"stileman/api"
)

// P18.1: of the task-fair lock, spinning: a reader that looks again and again while one writes, whatever its picks tell, a writer that does so while one reads, and the way down; what is misused is told.
func TestTaskFairSpin(t *testing.T) {
	script(t, made(t, api.TaskFair, api.Spin, 2, top), []string{
		"0 runlock: -, 0 call runlock, 0 return runlock misuse",
		"0 lock: add 0 00000001 was ffffffff, 0 call lock, 0 reg write",
		"0: load 2 was ffffffff, 0 admit, 0 return lock true",
		"0 lock: -, 0 call lock, 0 return lock misuse",
		"1 rlock: add 0 00000001 was 00000000, 1 call rlock, 1 reg read",
		"1: load 1 was ffffffff",
		"1 unlock: load 1 was ffffffff",
		"0 unlock: add 1 00000001 was ffffffff, 0 call unlock, 0 leave",
		"0: add 2 00000001 was ffffffff, 0 pass, 0 return unlock true",
		"1: load 1 was 00000000",
		"1: add 1 00000001 was 00000000, 1 admit, 1 return rlock true",
		"1 rlock: -, 1 call rlock, 1 return rlock misuse",
		"0 lock: add 0 00000001 was 00000001, 0 call lock, 0 reg write",
		"0: load 2 was 00000000",
		"1 runlock: add 2 00000001 was 00000000, 1 call runlock, 1 release, 1 return runlock true",
		"0: load 2 was 00000001, 0 admit, 0 return lock true",
		"0 downgrade: add 1 00000001 was 00000001, 0 call downgrade, 0 down, 0 return downgrade true",
		"0 runlock: add 2 00000001 was 00000001, 0 call runlock, 0 release, 0 return runlock true",
		"1: nothing",
	})
}

// P18.1: of the phase-fair lock, spinning: a reader that looks again and again while one writes, whatever its picks tell, a writer that does so while one reads, and the way down; what is misused is told.
func TestPhaseFairSpin(t *testing.T) {
	script(t, made(t, api.PhaseFair, api.Spin, 2, top), []string{
		"0 runlock: -, 0 call runlock, 0 return runlock misuse",
		"0 lock: add 2 00000001 was ffffffff, 0 call lock, 0 reg write",
		"0: load 3 was ffffffff",
		"0: load 4 was ffffffff",
		"0: add 0 00000003 was ffffff00, 0 present",
		"0: load 1 was ffffff00, 0 admit, 0 return lock true",
		"0 lock: -, 0 call lock, 0 return lock misuse",
		"1 rlock: add 0 00000100 was ffffff03, 1 call rlock, 1 reg read",
		"1: load 0 was 00000003",
		"1 unlock: load 0 was 00000003",
		"0 unlock: load 4 was ffffffff, 0 call unlock",
		"0: add 0 fffffffd was 00000003, 0 leave",
		"0: store 4 00000000 was ffffffff",
		"0: add 3 00000001 was ffffffff, 0 pass, 0 return unlock true",
		"1: load 0 was 00000000, 1 admit, 1 return rlock true",
		"1 rlock: -, 1 call rlock, 1 return rlock misuse",
		"0 lock: add 2 00000001 was 00000000, 0 call lock, 0 reg write",
		"0: load 3 was 00000000",
		"0: load 4 was 00000000",
		"0: add 0 00000002 was 00000000, 0 present",
		"0: load 1 was ffffff00",
		"1 runlock: add 1 00000100 was ffffff00, 1 call runlock, 1 release, 1 return runlock true",
		"0: load 1 was 00000000, 0 admit, 0 return lock true",
		"0 downgrade: load 4 was 00000000, 0 call downgrade",
		"0: add 0 000000fe was 00000002, 0 down",
		"0: store 4 00000001 was 00000000",
		"0: add 3 00000001 was 00000000, 0 pass, 0 return downgrade true",
		"0 runlock: add 1 00000100 was 00000000, 0 call runlock, 0 release, 0 return runlock true",
		"1: nothing",
	})
}

// P18.1: of the phase-fair lock whose writers stand in a queue, spinning: a reader that looks again and again while one writes, whatever its picks tell, a writer that does so while one reads, and the way down; what is misused is told.
func TestPhaseQueueSpin(t *testing.T) {
	script(t, made(t, api.PhaseQueue, api.Spin, 2, top), []string{
		"0 runlock: -, 0 call runlock, 0 return runlock misuse",
		"0 lock: store 8 00000000 was 00000000, 0 call lock",
		"0: store 10 00000001 was 00000000",
		"0: swap 2 00000001 was 00000000, 0 reg write",
		"0: load 3 was ffffffff",
		"0: add 0 00000003 was ffffff00, 0 present",
		"0: load 1 was ffffff00, 0 admit, 0 return lock true",
		"0 lock: -, 0 call lock, 0 return lock misuse",
		"1 rlock: add 0 00000100 was ffffff03, 1 call rlock, 1 reg read",
		"1: load 0 was 00000003",
		"1 unlock: load 0 was 00000003",
		"0 unlock: load 3 was ffffffff, 0 call unlock",
		"0: add 0 fffffffd was 00000003, 0 leave",
		"0: store 3 00000000 was ffffffff",
		"0: load 8 was 00000000",
		"0: cas 2 00000001 00000000 was 00000001, 0 pass, 0 return unlock true",
		"1: load 0 was 00000000, 1 admit, 1 return rlock true",
		"1 rlock: -, 1 call rlock, 1 return rlock misuse",
		"0 lock: store 8 00000000 was 00000000, 0 call lock",
		"0: store 10 00000001 was 00000001",
		"0: swap 2 00000001 was 00000000, 0 reg write",
		"0: load 3 was 00000000",
		"0: add 0 00000002 was 00000000, 0 present",
		"0: load 1 was ffffff00",
		"1 runlock: add 1 00000100 was ffffff00, 1 call runlock, 1 release, 1 return runlock true",
		"0: load 1 was 00000000, 0 admit, 0 return lock true",
		"0 downgrade: load 3 was 00000000, 0 call downgrade",
		"0: add 0 000000fe was 00000002, 0 down",
		"0: store 3 00000001 was 00000000",
		"0: load 8 was 00000000",
		"0: cas 2 00000001 00000000 was 00000001, 0 pass, 0 return downgrade true",
		"0 runlock: add 1 00000100 was 00000000, 0 call runlock, 0 release, 0 return runlock true",
		"1: nothing",
	})
}

// P18.1: of the fair queue lock, spinning: a reader that looks again and again while one writes, whatever its picks tell, a writer that does so while one reads, and the way down; what is misused is told.
func TestFairQueueSpin(t *testing.T) {
	script(t, made(t, api.FairQueue, api.Spin, 2, top), []string{
		"0 runlock: -, 0 call runlock, 0 return runlock misuse",
		"0 lock: store 8 00000000 was 00000000, 0 call lock",
		"0: store 10 00000001 was 00000000",
		"0: swap 0 00000001 was 00000000, 0 reg write",
		"0: load 1 was 00000000, 0 admit, 0 return lock true",
		"0 lock: -, 0 call lock, 0 return lock misuse",
		"1 rlock: store 9 00000000 was 00000000, 1 call rlock",
		"1: store 11 00000001 was 00000000",
		"1: swap 0 00000002 was 00000001, 1 reg read",
		"1: store 8 00000002 was 00000000",
		"1: load 11 was 00000001",
		"1 unlock: load 11 was 00000001",
		"0 unlock: load 8 was 00000002, 0 call unlock",
		"0: store 11 00000000 was 00000001, 0 leave, 0 pass, 0 return unlock true",
		"1: load 11 was 00000000",
		"1: add 1 00000001 was 00000000",
		"1: load 9 was 00000000",
		"1: cas 0 00000002 00000000 was 00000002, 1 admit, 1 return rlock true",
		"1 rlock: -, 1 call rlock, 1 return rlock misuse",
		"0 lock: store 8 00000000 was 00000002, 0 call lock",
		"0: store 10 00000001 was 00000001",
		"0: swap 0 00000001 was 00000000, 0 reg write",
		"0: load 1 was 00000001",
		"1 runlock: add 1 ffffffff was 00000001, 1 call runlock, 1 release, 1 return runlock true",
		"0: load 1 was 00000000, 0 admit, 0 return lock true",
		"0 downgrade: add 1 00000001 was 00000000, 0 call downgrade",
		"0: load 8 was 00000000",
		"0: cas 0 00000001 00000000 was 00000001, 0 down, 0 return downgrade true",
		"0 runlock: add 1 ffffffff was 00000001, 0 call runlock, 0 release, 0 return runlock true",
		"1: nothing",
	})
}

// P18.1: of the lock in which readers go first, spinning: a reader that looks again and again while one writes, whatever its picks tell, a writer that does so while one reads, and the way down; what is misused is told.
func TestReadersFirstSpin(t *testing.T) {
	script(t, made(t, api.ReadersFirst, api.Spin, 2, top), []string{
		"0 runlock: -, 0 call runlock, 0 return runlock misuse",
		"0 lock: load 0 was 00000000, 0 call lock, 0 reg write",
		"0: cas 0 00000000 00010000 was 00000000, 0 admit, 0 return lock true",
		"0 lock: -, 0 call lock, 0 return lock misuse",
		"1 rlock: add 0 00000001 was 00010000, 1 call rlock, 1 reg read",
		"1: load 0 was 00010001",
		"1 unlock: load 0 was 00010001",
		"0 unlock: add 0 ffff0000 was 00010001, 0 call unlock, 0 leave, 0 pass, 0 return unlock true",
		"1: load 0 was 00000001, 1 admit, 1 return rlock true",
		"1 rlock: -, 1 call rlock, 1 return rlock misuse",
		"0 lock: load 0 was 00000001, 0 call lock, 0 reg write",
		"0: load 0 was 00000001",
		"1 runlock: add 0 ffffffff was 00000001, 1 call runlock, 1 release, 1 return runlock true",
		"0: load 0 was 00000000",
		"0: cas 0 00000000 00010000 was 00000000, 0 admit, 0 return lock true",
		"0 downgrade: add 0 ffff0001 was 00010000, 0 call downgrade, 0 down, 0 return downgrade true",
		"0 runlock: add 0 ffffffff was 00000001, 0 call runlock, 0 release, 0 return runlock true",
		"1: nothing",
	})
}

// P18.1: of the lock in which writers go first, spinning: a reader that looks again and again while one writes, whatever its picks tell, a writer that does so while one reads, and the way down; what is misused is told.
func TestWritersFirstSpin(t *testing.T) {
	script(t, made(t, api.WritersFirst, api.Spin, 2, top), []string{
		"0 runlock: -, 0 call runlock, 0 return runlock misuse",
		"0 lock: add 0 00010000 was 00ffff00, 0 call lock, 0 reg write",
		"0: load 0 was 0100ff00, 0 admit, 0 return lock true",
		"0 lock: -, 0 call lock, 0 return lock misuse",
		"1 rlock: load 0 was 0100ff00, 1 call rlock, 1 reg read",
		"1: load 0 was 0100ff00",
		"1 unlock: load 0 was 0100ff00",
		"0 unlock: load 0 was 0100ff00, 0 call unlock",
		"0: add 0 ffff0100 was 0100ff00, 0 leave, 0 pass, 0 return unlock true",
		"1: load 0 was 01000000",
		"1: cas 0 01000000 01000001 was 01000000, 1 admit, 1 return rlock true",
		"1 rlock: -, 1 call rlock, 1 return rlock misuse",
		"0 lock: add 0 00010000 was 01000001, 0 call lock, 0 reg write",
		"0: load 0 was 01010001",
		"1 runlock: add 0 ffffffff was 01010001, 1 call runlock, 1 release, 1 return runlock true",
		"0: load 0 was 01010000, 0 admit, 0 return lock true",
		"0 downgrade: load 0 was 01010000, 0 call downgrade",
		"0: add 0 00000101 was 01010000, 0 down, 0 return downgrade true",
		"0 runlock: add 0 ffffffff was 01010101, 0 call runlock, 0 release, 0 return runlock true",
		"1: nothing",
	})
}
