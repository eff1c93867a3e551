-- MADE BY PROGRAM (checked-in-parts.mjs) out of YteokhkoaieibmaaChecked.lean: part 3 of 4: the items whose number leaves 3.
import Derived.Test.YteokhkoaieibmaaProg
import Derived.KernelRfl
import Derived.Items
import Derived.PartsItems
import Derived.CheckFast
import Derived.HeadItems
import GoSem.Claims
import Derived.Shelf.ItemsParts
import Derived.Test.YteokhkoaieibmaaCheckedPd
namespace Go.Proofs
mapM_items_part Try.el.told 3 4 : Try.bare.zipIdx.mapM (Elab.PartsItems.partAt Try.src) = .ok Try.parts
mapM_items_part Try.el.funcs 3 4 : Try.parts.mapM (Elab.one Try.progTables) = .ok Try.funcs.toList
forM_items_part Try.wf.types 3 4 : (List.range Try.src.types.size).forM (Check.typeAt Try.src) = .ok ()
forM_items_part Try.wf.names 3 4 : (List.range Try.src.decls.size).forM (Check.HeadItems.nameAt (Try.src.decls.toList.map (·.name))) = .ok ()
forM_items_part Try.wf.cutTypes 3 4 : Try.src.cutTypes.toList.forM (Check.cutType Try.src) = .ok ()
forM_items_part Try.wf.globals 3 4 : Try.src.globals.toList.forM (Check.global Try.src) = .ok ()
forM_items_part Try.wf.decls 3 4 : Try.src.decls.toList.forM (Check.decl Try.src) = .ok ()
forM_items_part Try.wf.entries 3 4 : (Try.src.inits.push Try.src.main).toList.forM (Check.entry Try.src) = .ok ()
forM_items_part Try.wt.methods 3 4 : (List.range Try.src.types.size).forM (Go.CheckTypes.methods Try.src) = .ok ()
forM_items_part Try.wt.decls 3 4 : Try.src.decls.toList.forM (Go.CheckTypes.decl Try.src) = .ok ()
forM_items_part Try.co.funcsF 3 4 : (List.range Try.prog.funcs.size).forM (CheckFast.funcAtF Try.prog) = .ok ()
forM_items_part Try.co.entries 3 4 : (Try.prog.inits.push Try.prog.main).toList.forM (CheckCode.entry Try.prog) = .ok ()
end Go.Proofs
