/-
  Texts put together: CheckedLc, CheckedLf0, CheckedLf1, CheckedLf2, CheckedLf3, Prog, CheckedPd, CheckedP0, CheckedP1, CheckedP2, CheckedP3, CheckedPe, Checked.
-/
import Derived.LoadGo3
import Derived.KernelRfl
import Derived.Items
import Derived.PartsItems
import Derived.CheckFast
import Derived.HeadItems
import GoSem.Claims
import Derived.Shelf.ItemsParts
namespace Go.Proofs
set_option maxHeartbeats 4000000 in      -- a large cut (87 functions, in a trial) ran out of the default 200,000 here: '(deterministic) timeout at whnf'
load_go_consts "../../toys/ytobiapniidaibaagreatdoor/ytobiapniidaibaagreatdoor.cut.gsa" as Tryz
end Go.Proofs

namespace Go.Proofs
set_option maxHeartbeats 4000000 in      -- a large cut (87 functions, in a trial) ran out of the default 200,000 here: '(deterministic) timeout at whnf'
load_go_facts "../../toys/ytobiapniidaibaagreatdoor/ytobiapniidaibaagreatdoor.cut.gsa" as Tryz part 0 of 4
end Go.Proofs

namespace Go.Proofs
set_option maxHeartbeats 4000000 in      -- a large cut (87 functions, in a trial) ran out of the default 200,000 here: '(deterministic) timeout at whnf'
load_go_facts "../../toys/ytobiapniidaibaagreatdoor/ytobiapniidaibaagreatdoor.cut.gsa" as Tryz part 1 of 4
end Go.Proofs

namespace Go.Proofs
set_option maxHeartbeats 4000000 in      -- a large cut (87 functions, in a trial) ran out of the default 200,000 here: '(deterministic) timeout at whnf'
load_go_facts "../../toys/ytobiapniidaibaagreatdoor/ytobiapniidaibaagreatdoor.cut.gsa" as Tryz part 2 of 4
end Go.Proofs

namespace Go.Proofs
set_option maxHeartbeats 4000000 in      -- a large cut (87 functions, in a trial) ran out of the default 200,000 here: '(deterministic) timeout at whnf'
load_go_facts "../../toys/ytobiapniidaibaagreatdoor/ytobiapniidaibaagreatdoor.cut.gsa" as Tryz part 3 of 4
end Go.Proofs



namespace Go.Proofs
noncomputable def Tryz.bare : List (FuncDecl × Elab.Part) := Tryz.parts.map fun p => (p.1, p.2.split.2)
end Go.Proofs

namespace Go.Proofs
mapM_items_part Tryz.el.told 0 4 : Tryz.bare.zipIdx.mapM (Elab.PartsItems.partAt Tryz.src) = .ok Tryz.parts
mapM_items_part Tryz.el.funcs 0 4 : Tryz.parts.mapM (Elab.one Tryz.progTables) = .ok Tryz.funcs.toList
forM_items_part Tryz.wf.types 0 4 : (List.range Tryz.src.types.size).forM (Check.typeAt Tryz.src) = .ok ()
forM_items_part Tryz.wf.names 0 4 : (List.range Tryz.src.decls.size).forM (Check.HeadItems.nameAt (Tryz.src.decls.toList.map (·.name))) = .ok ()
forM_items_part Tryz.wf.cutTypes 0 4 : Tryz.src.cutTypes.toList.forM (Check.cutType Tryz.src) = .ok ()
forM_items_part Tryz.wf.globals 0 4 : Tryz.src.globals.toList.forM (Check.global Tryz.src) = .ok ()
forM_items_part Tryz.wf.decls 0 4 : Tryz.src.decls.toList.forM (Check.decl Tryz.src) = .ok ()
forM_items_part Tryz.wf.entries 0 4 : (Tryz.src.inits.push Tryz.src.main).toList.forM (Check.entry Tryz.src) = .ok ()
forM_items_part Tryz.wt.methods 0 4 : (List.range Tryz.src.types.size).forM (Go.CheckTypes.methods Tryz.src) = .ok ()
forM_items_part Tryz.wt.decls 0 4 : Tryz.src.decls.toList.forM (Go.CheckTypes.decl Tryz.src) = .ok ()
forM_items_part Tryz.co.funcsF 0 4 : (List.range Tryz.prog.funcs.size).forM (CheckFast.funcAtF Tryz.prog) = .ok ()
forM_items_part Tryz.co.entries 0 4 : (Tryz.prog.inits.push Tryz.prog.main).toList.forM (CheckCode.entry Tryz.prog) = .ok ()
end Go.Proofs

namespace Go.Proofs
mapM_items_part Tryz.el.told 1 4 : Tryz.bare.zipIdx.mapM (Elab.PartsItems.partAt Tryz.src) = .ok Tryz.parts
mapM_items_part Tryz.el.funcs 1 4 : Tryz.parts.mapM (Elab.one Tryz.progTables) = .ok Tryz.funcs.toList
forM_items_part Tryz.wf.types 1 4 : (List.range Tryz.src.types.size).forM (Check.typeAt Tryz.src) = .ok ()
forM_items_part Tryz.wf.names 1 4 : (List.range Tryz.src.decls.size).forM (Check.HeadItems.nameAt (Tryz.src.decls.toList.map (·.name))) = .ok ()
forM_items_part Tryz.wf.cutTypes 1 4 : Tryz.src.cutTypes.toList.forM (Check.cutType Tryz.src) = .ok ()
forM_items_part Tryz.wf.globals 1 4 : Tryz.src.globals.toList.forM (Check.global Tryz.src) = .ok ()
forM_items_part Tryz.wf.decls 1 4 : Tryz.src.decls.toList.forM (Check.decl Tryz.src) = .ok ()
forM_items_part Tryz.wf.entries 1 4 : (Tryz.src.inits.push Tryz.src.main).toList.forM (Check.entry Tryz.src) = .ok ()
forM_items_part Tryz.wt.methods 1 4 : (List.range Tryz.src.types.size).forM (Go.CheckTypes.methods Tryz.src) = .ok ()
forM_items_part Tryz.wt.decls 1 4 : Tryz.src.decls.toList.forM (Go.CheckTypes.decl Tryz.src) = .ok ()
forM_items_part Tryz.co.funcsF 1 4 : (List.range Tryz.prog.funcs.size).forM (CheckFast.funcAtF Tryz.prog) = .ok ()
forM_items_part Tryz.co.entries 1 4 : (Tryz.prog.inits.push Tryz.prog.main).toList.forM (CheckCode.entry Tryz.prog) = .ok ()
end Go.Proofs

namespace Go.Proofs
mapM_items_part Tryz.el.told 2 4 : Tryz.bare.zipIdx.mapM (Elab.PartsItems.partAt Tryz.src) = .ok Tryz.parts
mapM_items_part Tryz.el.funcs 2 4 : Tryz.parts.mapM (Elab.one Tryz.progTables) = .ok Tryz.funcs.toList
forM_items_part Tryz.wf.types 2 4 : (List.range Tryz.src.types.size).forM (Check.typeAt Tryz.src) = .ok ()
forM_items_part Tryz.wf.names 2 4 : (List.range Tryz.src.decls.size).forM (Check.HeadItems.nameAt (Tryz.src.decls.toList.map (·.name))) = .ok ()
forM_items_part Tryz.wf.cutTypes 2 4 : Tryz.src.cutTypes.toList.forM (Check.cutType Tryz.src) = .ok ()
forM_items_part Tryz.wf.globals 2 4 : Tryz.src.globals.toList.forM (Check.global Tryz.src) = .ok ()
forM_items_part Tryz.wf.decls 2 4 : Tryz.src.decls.toList.forM (Check.decl Tryz.src) = .ok ()
forM_items_part Tryz.wf.entries 2 4 : (Tryz.src.inits.push Tryz.src.main).toList.forM (Check.entry Tryz.src) = .ok ()
forM_items_part Tryz.wt.methods 2 4 : (List.range Tryz.src.types.size).forM (Go.CheckTypes.methods Tryz.src) = .ok ()
forM_items_part Tryz.wt.decls 2 4 : Tryz.src.decls.toList.forM (Go.CheckTypes.decl Tryz.src) = .ok ()
forM_items_part Tryz.co.funcsF 2 4 : (List.range Tryz.prog.funcs.size).forM (CheckFast.funcAtF Tryz.prog) = .ok ()
forM_items_part Tryz.co.entries 2 4 : (Tryz.prog.inits.push Tryz.prog.main).toList.forM (CheckCode.entry Tryz.prog) = .ok ()
end Go.Proofs

namespace Go.Proofs
mapM_items_part Tryz.el.told 3 4 : Tryz.bare.zipIdx.mapM (Elab.PartsItems.partAt Tryz.src) = .ok Tryz.parts
mapM_items_part Tryz.el.funcs 3 4 : Tryz.parts.mapM (Elab.one Tryz.progTables) = .ok Tryz.funcs.toList
forM_items_part Tryz.wf.types 3 4 : (List.range Tryz.src.types.size).forM (Check.typeAt Tryz.src) = .ok ()
forM_items_part Tryz.wf.names 3 4 : (List.range Tryz.src.decls.size).forM (Check.HeadItems.nameAt (Tryz.src.decls.toList.map (·.name))) = .ok ()
forM_items_part Tryz.wf.cutTypes 3 4 : Tryz.src.cutTypes.toList.forM (Check.cutType Tryz.src) = .ok ()
forM_items_part Tryz.wf.globals 3 4 : Tryz.src.globals.toList.forM (Check.global Tryz.src) = .ok ()
forM_items_part Tryz.wf.decls 3 4 : Tryz.src.decls.toList.forM (Check.decl Tryz.src) = .ok ()
forM_items_part Tryz.wf.entries 3 4 : (Tryz.src.inits.push Tryz.src.main).toList.forM (Check.entry Tryz.src) = .ok ()
forM_items_part Tryz.wt.methods 3 4 : (List.range Tryz.src.types.size).forM (Go.CheckTypes.methods Tryz.src) = .ok ()
forM_items_part Tryz.wt.decls 3 4 : Tryz.src.decls.toList.forM (Go.CheckTypes.decl Tryz.src) = .ok ()
forM_items_part Tryz.co.funcsF 3 4 : (List.range Tryz.prog.funcs.size).forM (CheckFast.funcAtF Tryz.prog) = .ok ()
forM_items_part Tryz.co.entries 3 4 : (Tryz.prog.inits.push Tryz.prog.main).toList.forM (CheckCode.entry Tryz.prog) = .ok ()
end Go.Proofs

namespace Go.Proofs
theorem Tryz.el.bare : (Elab.partsBare Tryz.src).toList = Tryz.bare := by kernel_rfl
end Go.Proofs

namespace Go.Proofs

-- (twenty-third state; an AI agent of the authors' house's law, Derived/PartsItems.lean) THE ONE GREAT EQUATION, ITEM BY ITEM: by 'kernel_rfl' in one declaration it made the kernel hold what the loader is told of EVERY function at once (15.2 GB at the testers' kernel's whole tower; 2.2 GB so: an AI agent of the authors' house's measure)
mapM_from_items Tryz.el.told : Tryz.bare.zipIdx.mapM (Elab.PartsItems.partAt Tryz.src) = .ok Tryz.parts
theorem Tryz.el.parts : (Elab.parts Tryz.src).toList = Tryz.parts := Elab.PartsItems.parts_by_items Tryz.el.bare Tryz.el.told
theorem Tryz.el.tables : Elab.tablesOf Tryz.src = Tryz.progTables := by kernel_rfl
mapM_from_items Tryz.el.funcs : Tryz.parts.mapM (Elab.one Tryz.progTables) = .ok Tryz.funcs.toList
theorem Tryz.elab_eq : Elab.program Tryz.src = .ok Tryz.prog := by
  unfold Elab.program
  rw [Tryz.el.parts, Tryz.el.tables, Tryz.el.funcs]
  kernel_rfl

forM_from_items Tryz.wf.types : (List.range Tryz.src.types.size).forM (Check.typeAt Tryz.src) = .ok ()
-- (twenty-third state; an AI agent of the authors' house's law, Derived/HeadItems.lean) THE SOURCE's HEAD: its last row, 'no two functions of one name', held every pair of names in one declaration (over 10 GB at the testers' kernel's whole tower): A NAME AN ITEM
theorem Tryz.wf.headBut : Check.HeadItems.headButNames Tryz.src = .ok () := by kernel_rfl
theorem Tryz.wf.count : (Tryz.src.decls.toList.map (·.name)).length = Tryz.src.decls.size := by kernel_rfl
forM_from_items Tryz.wf.names : (List.range Tryz.src.decls.size).forM (Check.HeadItems.nameAt (Tryz.src.decls.toList.map (·.name))) = .ok ()
theorem Tryz.wf.head : Check.head Tryz.src = .ok () := Check.HeadItems.head_by_items Tryz.wf.headBut Tryz.wf.count Tryz.wf.names
forM_from_items Tryz.wf.cutTypes : Tryz.src.cutTypes.toList.forM (Check.cutType Tryz.src) = .ok ()
forM_from_items Tryz.wf.globals : Tryz.src.globals.toList.forM (Check.global Tryz.src) = .ok ()
forM_from_items Tryz.wf.decls : Tryz.src.decls.toList.forM (Check.decl Tryz.src) = .ok ()
forM_from_items Tryz.wf.entries : (Tryz.src.inits.push Tryz.src.main).toList.forM (Check.entry Tryz.src) = .ok ()
theorem Tryz.wellFormed : Tryz.src.check = .ok () :=
  then_ok Tryz.wf.types (then_ok Tryz.wf.head (then_ok Tryz.wf.cutTypes (then_ok Tryz.wf.globals (then_ok Tryz.wf.decls Tryz.wf.entries))))

forM_from_items Tryz.wt.methods : (List.range Tryz.src.types.size).forM (Go.CheckTypes.methods Tryz.src) = .ok ()
forM_from_items Tryz.wt.decls : Tryz.src.decls.toList.forM (Go.CheckTypes.decl Tryz.src) = .ok ()
theorem Tryz.wellTyped : Tryz.src.checkTypes = .ok () := then_ok Tryz.wt.methods Tryz.wt.decls

-- (twenty-third state; an AI agent of the authors' house's law, Derived/CheckFast.lean) THE CODE's CHECK BY ITS FAST TWIN, which forces each number of a region's 'before' to a numeral as it is laid: a region of some 200 operations outgrew the kernel's memory without it; 'funcAt_eq' carries the result over
forM_from_items Tryz.co.funcsF : (List.range Tryz.prog.funcs.size).forM (CheckFast.funcAtF Tryz.prog) = .ok ()
theorem Tryz.co.funcs : (List.range Tryz.prog.funcs.size).forM (CheckCode.funcAt Tryz.prog) = .ok () := by
  rw [show CheckCode.funcAt Tryz.prog = CheckFast.funcAtF Tryz.prog from funext (CheckFast.funcAt_eq Tryz.prog)]
  exact Tryz.co.funcsF
forM_from_items Tryz.co.entries : (Tryz.prog.inits.push Tryz.prog.main).toList.forM (CheckCode.entry Tryz.prog) = .ok ()
theorem Tryz.codeOk : Tryz.prog.check = .ok () := then_ok Tryz.co.funcs Tryz.co.entries

noncomputable def Tryz.checked : Checked := ⟨Tryz.src, Tryz.prog, Tryz.wide, Tryz.wellFormed, Tryz.wellTyped, Tryz.elab_eq, Tryz.codeOk⟩

end Go.Proofs
