package desk

// The requests of each interface, from 0 on; those that do nothing but make an object, or end theirs, are not named.
const (
	displaySync = iota
	displayGetRegistry
)

const compositorCreateSurface = 0

const (
	poolCreateBuffer = iota
	poolDestroy
	poolResize
)

const (
	surfaceDestroy = iota
	surfaceAttach
	surfaceDamage
	surfaceFrame
	surfaceSetInputRegion
	surfaceCommit
)

const (
	regionDestroy = iota
	regionAdd
	regionSubtract
)

const subcompositorGetSubsurface = 1

const (
	subsurfaceDestroy = iota
	subsurfaceSetPosition
	subsurfacePlaceAbove
	subsurfacePlaceBelow
	subsurfaceSetSync
	subsurfaceSetDesync
)

const (
	_ = iota
	wmBaseGetXdgSurface
	wmBasePong
)

const (
	xdgSurfaceDestroy = iota
	xdgSurfaceGetToplevel
	xdgSurfaceAckConfigure
)

const toplevelDestroy = 0

// The events that are sent. Who has the pointer, and who has the keys, is told of coming and going by the same numbers.
const (
	displayDeleteID     = 1
	registryGlobal      = 0
	callbackDone        = 0
	shmFormat           = 0
	bufferRelease       = 0
	seatCapabilities    = 0
	focusEnter          = 0
	focusLeave          = 1
	pointerMotion       = 2
	pointerButton       = 3
	keyboardKey         = 2
	wmBasePing          = 0
	xdgSurfaceConfigure = 0
	toplevelConfigure   = 0
)

// capabilities says that a seat has a pointer and a keyboard.
const capabilities = 3

// What shell's Commit says is to be done.
const (
	toAsk  = 1
	toShow = 2
	toHide = 3
)
