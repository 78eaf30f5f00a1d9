import PyProof.Rows.All
import Wide.All
import OpenK.AllK
import Wide.FinOn
import Lean
import PyProof.EqAt
import PyProof.EqKinds
import PyProof.TupleCall
import PyProof.NeKinds
import PyProof.ZipIter
import KE.KSortTup
import PyProof.TupleKey
import PyProof.SetKind
import PyProof.IsRules
import PyProof.Rows.SetFrom
import PyProof.Rows.SortShell
import KE.KDictList
import KE.KDictSum
import PyProof.MinMaxWalk
import PyProof.Rows.CallKwBuiltin
import PyProof.TupleIter
import KE.KIntText
import PyProof.Rows.StrWeight2
import PyProof.Rows.StrNews
import PyProof.StrWalks
import PyProof.FString5
import PyProof.SliceStr2
import PyProof.FitsReplace
import PyProof.Rows.StrSplitCount
import PyProof.StationsW
import OpenK.KOwn
import PyProof.ExcClass2
import KE.KIsAll
import OpenK.KMake
import PyProof.ExcArgs
import PyProof.ExcAttrAll.ValueError
import KE.KTryMore
import PyProof.NsDelKeeps
import PyProof.RulesAs
import PySem.Str
import PyProof.Rows.SortRuns
import PyProof.SetRoads
import PyProof.Draws
import PyProof.EnumStmt
import PyProof.Rows.EnumRows
import KE.KSortKey
import PyProof.ReprRoads
import PyProof.StrBlockL
import PyProof.Rows.StrNews2
import PyProof.MeetsStr
import PyProof.StrOps2
import PyProof.Rows.StrOrd
import PyProof.Rows.StrRev
import PyProof.ListMulRoad
import PyProof.ExcBaseAll.ValueError
import PySem.Challenge.RW_healfloor_k44_island_texts_refused
set_option bootstrap.genMatcherCode false
set_option genSizeOf false
set_option compiler.extract_closed false
local macro_rules|`(tactic|nofun)=>`(tactic|first|assumption|lia)
local macro_rules|`(tactic|trivial)=>`(tactic|first|exact Or.inl rfl|exact Or.inr rfl)
noncomputable abbrev xa:=@PySem.wpAny_bind
noncomputable abbrev xc:=@if_pos
noncomputable abbrev xf:=@if_neg
noncomputable abbrev xg:=@PySem.wpAny_pure
noncomputable abbrev xh:=@Nat.le_refl
noncomputable abbrev xi:=@PySem.Heap.get?_push_of_some
noncomputable abbrev xj:=@PySem.Heap.lt_size
noncomputable abbrev xk:=@List.mem_cons
noncomputable abbrev xl:=@decide_eq_false
noncomputable abbrev xm:=@Bool.and_eq_true
noncomputable abbrev xn:=@if_true
noncomputable abbrev xo:=@decide_eq_true
noncomputable abbrev xp:=@Nat.le_trans
noncomputable abbrev xq:=@List.length_map
noncomputable abbrev xr:=@Ne.symm
noncomputable abbrev xt:=@Nat.ne_of_lt
noncomputable abbrev xu:=@List.size_toArray
noncomputable abbrev xv:=@Nat.lt_of_lt_of_le
noncomputable abbrev xw:=@PySem.Heap.get?_push_size
noncomputable abbrev xx:=@List.map_cons
noncomputable abbrev xy:=@PyProof.Rows.wpS_bind
noncomputable abbrev xA:=@List.length_cons
noncomputable abbrev xB:=@List.mem_map
noncomputable abbrev xC:=@List.getElem?_eq_getElem
noncomputable abbrev xD:=@Option.some.inj
noncomputable abbrev xE:=@List.length_append
noncomputable abbrev xF:=@List.getElem?_set_ne
noncomputable abbrev xG:=@PySem.wpAny_holding
noncomputable abbrev xH:=@PyProof.Rows.wpS_pure
noncomputable abbrev xI:=@List.getElem?_eq_some_iff
noncomputable abbrev xJ:=@PySem.wpAny_mono
noncomputable abbrev xK:=@if_false
noncomputable abbrev xM:=@PySem.wpAny_field
noncomputable abbrev xN:=@List.mem_cons_self
noncomputable abbrev xO:=@List.all_eq_true
noncomputable abbrev xP:=@Bool.false_eq_true
noncomputable abbrev xQ:=@beq_iff_eq
noncomputable abbrev xS:=@decide_eq_decide
noncomputable abbrev xT:=@List.mem_append_right
noncomputable abbrev xU:=@List.lookup_cons
noncomputable abbrev xV:=@List.mem_singleton
noncomputable abbrev xW:=@PySem.wpAny_call_entry
noncomputable abbrev xX:=@List.mem_cons_of_mem
noncomputable abbrev xY:=@List.getElem?_set_self
noncomputable abbrev xZ:=@PySem.sizeLine_eq
noncomputable abbrev x3:=@Array.getElem?_eq_getElem
noncomputable abbrev x4:=@Array.getElem?_eq_some_iff
noncomputable abbrev x5:=@Nat.lt_irrefl
noncomputable abbrev x6:=@List.getElem?_append_left
noncomputable abbrev x8:=@Nat.zero_le
noncomputable abbrev vc:=@Nat.lt_or_ge
noncomputable abbrev vd:=@List.map_map
noncomputable abbrev ve:=@PySem.wpAny_truthy_bool
noncomputable abbrev vf:=@PySem.wpAny_newObj_type
noncomputable abbrev vg:=@PySem.wpAny_rule
noncomputable abbrev vh:=@List.append_nil
noncomputable abbrev vi:=@PySem.Heap.size_push
noncomputable abbrev vj:=@PySem.wpAny_seqItems
noncomputable abbrev vk:=@List.map_append
noncomputable abbrev vm:=@Nat.le_of_lt
noncomputable abbrev vn:=@List.mem_append
noncomputable abbrev vo:=@List.nodup_cons
noncomputable abbrev vp:=@List.getElem?_map
noncomputable abbrev vq:=@List.length_drop
noncomputable abbrev vt:=@PySem.Heap.get?_update_other
noncomputable abbrev vw:=@List.all_cons
noncomputable abbrev vx:=@Array.getD_eq_getD_getElem?
noncomputable abbrev vy:=@List.mem_range
noncomputable abbrev vz:=@Nat.ne_of_gt
noncomputable abbrev vA:=@List.getElem?_append_right
noncomputable abbrev vB:=@List.map_nil
noncomputable abbrev vC:=@List.getElem?_eq_none
noncomputable abbrev vD:=@Nat.mod_lt
noncomputable abbrev vE:=@PySem.wpAny_Call_Name_kw
noncomputable abbrev vF:=@Nat.lt_trans
noncomputable abbrev vG:=@PySem.wpAny_callSpecial?_slot
noncomputable abbrev vH:=@PySem.Heap.get?_update_self
noncomputable abbrev vI:=@List.not_mem_nil
noncomputable abbrev vJ:=@List.pairwise_cons
noncomputable abbrev vK:=@PySem.wpAny_setField
noncomputable abbrev vL:=@PySem.Obj.data_mapFields
noncomputable abbrev vM:=@Bool.not_eq_true'
noncomputable abbrev vO:=@Bool.not_true
noncomputable abbrev vP:=@List.filterMap_cons
noncomputable abbrev vQ:=@List.mem_append_left
noncomputable abbrev vR:=@PySem.codeAny_mono
noncomputable abbrev vS:=@List.length_take
noncomputable abbrev vT:=@PySem.wpAny_specialOf
noncomputable abbrev vU:=@PySem.wpAny_isInstance
noncomputable abbrev vV:=@List.mem_iff_getElem
noncomputable abbrev vW:=@List.take_of_length_le
noncomputable abbrev vX:=@Option.map_some
noncomputable abbrev vY:=@List.nil_append
noncomputable abbrev vZ:=@List.zip_cons_cons
noncomputable abbrev v5:=@PySem.wpAny_setState_of
noncomputable abbrev v7:=@PySem.wpAny_forIn_list
noncomputable abbrev v8:=@List.filter_cons_of_pos
noncomputable abbrev v9:=@PySem.F.called_set
noncomputable abbrev ua:=@PySem.wpAny_standAt
noncomputable abbrev ub:=@PySem.wpAny_passesOwn
noncomputable abbrev uc:=@PySem.Calls.spliced_cons
noncomputable abbrev ud:=@PyProof.Rows.slot_tuple_getitem
noncomputable abbrev ue:=@PySem.wpAny_typeOf
noncomputable abbrev uf:=@Int.emod_lt_of_pos
noncomputable abbrev ug:=@Int.emod_nonneg
noncomputable abbrev uh:=@List.length_range
noncomputable abbrev ui:=@PySem.wpAny_attempt
noncomputable abbrev uj:=@PySem.Heap.SameBut.update
noncomputable abbrev uk:=@List.cons.inj
noncomputable abbrev uo:=@PySem.wpAny_tupleItemsOf
noncomputable abbrev uq:=@Array.length_toList
noncomputable abbrev ur:=@PySem.wpAny_execs_nil
noncomputable abbrev uu:=@PyProof.Rows.callWith_type1
noncomputable abbrev uv:=@List.mem_filterMap
noncomputable abbrev uw:=@PySem.Calls.spliced_nil
noncomputable abbrev uy:=@PySem.mem_of_lookup
noncomputable abbrev uz:=@List.find?_cons
noncomputable abbrev uA:=@List.length_nil
noncomputable abbrev uB:=@Nat.lt_of_le_of_lt
noncomputable abbrev uC:=@PySem.wpAny_setField_rec
noncomputable abbrev uD:=@Bool.eq_false_iff
noncomputable abbrev uE:=@List.filter_cons_of_neg
noncomputable abbrev uF:=@Bool.false_ne_true
noncomputable abbrev uG:=@List.mem_of_getElem?
noncomputable abbrev uH:=@Array.getElem?_toList
noncomputable abbrev uI:=@List.replicate_succ
noncomputable abbrev uJ:=@List.forIn_cons
noncomputable abbrev uK:=@Bool.not_eq_true
noncomputable abbrev uL:=@Nat.lt_succ_of_lt
noncomputable abbrev uM:=@List.length_reverse
noncomputable abbrev uN:=@Bool.eq_iff_iff
noncomputable abbrev uO:=@PySem.wpAny_pyIter_list
noncomputable abbrev uP:=@List.perm_middle
noncomputable abbrev uQ:=@of_decide_eq_true
noncomputable abbrev uR:=@List.foldl_cons
noncomputable abbrev uS:=@PySem.wpAny_askSetting
noncomputable abbrev uT:=@PySem.Obj.isFreed_of_fields
noncomputable abbrev uU:=@Nat.le_add_right
noncomputable abbrev uV:=@PySem.wpAny_loadPart_at
noncomputable abbrev uW:=@List.any_eq_true
noncomputable abbrev uX:=@PySem.F.slot_tuple_hash
noncomputable abbrev uY:=@Array.mem_toList_iff
noncomputable abbrev uZ:=@List.getElem?_take_of_lt
noncomputable abbrev u0:=@PySem.builtinLookup_eq_fast
noncomputable abbrev u3:=@Classical.byContradiction
noncomputable abbrev u6:=@List.getElem?_cons_zero
noncomputable abbrev u7:=@PySem.F.slot_tuple_iterator_next
noncomputable abbrev u9:=@PySem.F.slot_str_split
noncomputable abbrev yd:=@List.eq_nil_of_length_eq_zero
noncomputable abbrev ye:=@PySem.isSubtype_tuple_tuple
noncomputable abbrev yf:=@PyProof.Rows.F.plain_set_update_loop
noncomputable abbrev yg:=@PySem.wpAny_richCompare_same_room
noncomputable abbrev yh:=@PyProof.Rows.boot_isinstance
set_option linter.all false
set_option maxRecDepth 100000
set_option Elab.async false
set_option maxHeartbeats 8000000
namespace L2
open PySem PySem.Spec PyProof.Rows
noncomputable abbrev Key:=Sum Int Str
noncomputable def zJc:Key->Value->Bool
 | .inl k,v=>Value.isInt k v
 | .inr x,v=>Value.isStrOf x v
noncomputable def keyH (w:World):Key->Int
 | .inl k=>hashInt k
 | .inr x=>hashStr w x
theorem zAb:∀{k:Key}{v:Value},zJc k v=true->(∃i t,k=Sum.inl i/\v=Value.int i t)\/(∃x t,k=Sum.inr x/\v=Value.str x t)
 | .inl i,v,h=>by
  obtain⟨t,e⟩:=Value.isInt_shape (k:=i) (v:=v) h
  exact .inl ⟨i,t,rfl,e⟩
 | .inr x,v,h=>by
  obtain⟨t,e⟩:=Value.isStrOf_shape (x:=x) (v:=v) h
  exact .inr ⟨x,t,rfl,e⟩
theorem zLt (i:Int) (t:Tok):zJc (.inl i) (.int i t)=true:=by simp[zJc,Value.isInt]
theorem zLs (x:Str) (t:Tok):zJc (.inr x) (.str x t)=true:=by simp[zJc,Value.isStrOf]
theorem zXs (a b:Int):decide ((Sum.inl a:Key)=Sum.inl b)=(a == b):=by
 by_cases e:a=b
 ·subst e;simp
 ·have h:¬ (Sum.inl a:Key)=Sum.inl b:=fun q=>e (Sum.inl.inj q)
  rw[xl h]
  exact(beq_eq_false_iff_ne.mpr e).symm
theorem zXp (a b:Str):decide ((Sum.inr a:Key)=Sum.inr b)=decide (a=b):=by
 by_cases e:a=b
 ·subst e;simp
 ·have h:¬ (Sum.inr a:Key)=Sum.inr b:=fun q=>e (Sum.inr.inj q)
  rw[xl h,xl e]
theorem zXr (a:Int) (b:Str):decide ((Sum.inl a:Key)=Sum.inr b)=false:=xl (fun q=>nomatch q)
theorem zXq (a:Str) (b:Int):decide ((Sum.inr a:Key)=Sum.inl b)=false:=xl (fun q=>nomatch q)
noncomputable def zAp (prog:Program) (w:World):PySem.KeyKind prog w Key where
 is:=zJc
 hash:=keyH w
 inj:=fun v a b ha hb=>by
  rcases zAb ha with⟨i,t,rfl,rfl⟩|⟨x,t,rfl,rfl⟩
  ·rcases zAb hb with⟨j,u,rfl,e⟩|⟨y,u,rfl,e⟩
   ·injection e with e1 _;rw[e1]
   ·exact nomatch e
  ·rcases zAb hb with⟨j,u,rfl,e⟩|⟨y,u,rfl,e⟩
   ·exact nomatch e
   ·injection e with e1 _;rw[e1]
 byValue:=fun k v h=>by
  rcases zAb h with⟨i,t,rfl,rfl⟩|⟨x,t,rfl,rfl⟩ <;> rfl
 pyHash:=fun hv h=>by
  rcases zAb hv with⟨i,t,rfl,rfl⟩|⟨x,t,rfl,rfl⟩
  ·exact wpAny_pyHash_int h
  ·exact wpAny_pyHash_str h
 eqBool:=fun hu hv h=>by
  rcases zAb hu with⟨i,t,rfl,rfl⟩|⟨x,t,rfl,rfl⟩
  ·rcases zAb hv with⟨j,u,rfl,rfl⟩|⟨y,u,rfl,rfl⟩
   ·rw[zXs]at h;exact wpAny_eqBool_int h
   ·rw[zXr]at h;exact SeqAt.EqAt.int_str i t y u _ _ _ _ h
  ·rcases zAb hv with⟨j,u,rfl,rfl⟩|⟨y,u,rfl,rfl⟩
   ·rw[zXq]at h;exact SeqAt.EqAt.str_int x t j u _ _ _ _ h
   ·rw[zXp]at h;exact wpAny_eqBool_str h
 «strs»:=fun k x t v h=>by
  rcases zAb h with⟨i,u,rfl,e⟩|⟨y,u,rfl,e⟩
  ·exact nomatch e
  ·injection e with e1 _
   subst e1
   cases v <;> rfl
theorem zGn (prog:Program) (w:World) (i:Int) (t:Tok):(zAp prog w).is (.inl i) (.int i t)=true:=zLt i t
theorem zGm (prog:Program) (w:World) (x:Str) (t:Tok):(zAp prog w).is (.inr x) (.str x t)=true:=zLs x t
end L2
namespace L2
open PySem PySem.Spec PyProof.Rows
inductive V where
 | non|bl (b:Bool)|int (i:Int)|str (x:Str)|byt (b:Array UInt8)|flt (b:UInt64)|ref (a:Addr)|ty (n:String)
 deriving DecidableEq
noncomputable def RelV:V->Value->Prop
 | .non,u=>u=Value.none
 | .bl b,u=>u=Value.bool b
 | .int i,u=>∃t,u=Value.int i t
 | .str x,u=>∃t,u=Value.str x t
 | .byt b,u=>∃t,u=Value.bytes b t
 | .flt b,u=>∃t,u=Value.float b t
 | .ref a,u=>u=Value.ref a
 | .ty n,u=>u=Value.type n
noncomputable abbrev Vals:List V->List Value->Prop:=Paired RelV
theorem Vals.length {xs:List V}{us:List Value}(r:Vals xs us):xs.length=us.length:=Paired.length r
theorem Vals.get:∀{xs:List V}{us:List Value}{i:Nat}{x:V},Vals xs us->xs[i]?=some x->∃u,us[i]?=some u/\RelV x u
 | _,_,_,_,.nil,e=>by simp at e
 | _,_,0,_,.cons r _,e=>by simp at e;subst e;exact⟨_,rfl,r⟩
 | _,_,i+1,x,.cons _ t,e=>by
  obtain⟨u,h1,h2⟩:=Vals.get (i:=i) (x:=x) t (by simpa using e)
  exact⟨u,by simpa using h1,h2⟩
theorem Vals.append:∀{xs ys:List V}{us ws:List Value},Vals xs us->Vals ys ws->Vals (xs++ys) (us++ws)
 | _,_,_,_,.nil,s=>s
 | _,_,_,_,.cons r t,s=>.cons r (Vals.append t s)
theorem Vals.take:∀{xs:List V}{us:List Value}(n:Nat),Vals xs us->Vals (xs.take n) (us.take n)
 | _,_,0,_=>.nil
 | _,_,_+1,.nil=>.nil
 | _,_,n+1,.cons r t=>.cons r (Vals.take n t)
theorem Vals.drop:∀{xs:List V}{us:List Value}(n:Nat),Vals xs us->Vals (xs.drop n) (us.drop n)
 | _,_,0,r=>r
 | _,_,_+1,.nil=>.nil
 | _,_,n+1,.cons _ t=>Vals.drop n t
noncomputable def RelO:Option V->Option Value->Prop
 | some v,some u=>RelV v u
 | none,none=>True
 | _,_=>False
noncomputable def KV {κ:Type}:List (κ × V)->List (κ × Value)->Prop:=Paired fun(p:κ × V) (q:κ × Value)=>p.1=q.1/\RelV p.2 q.2
noncomputable def kV:Key->V
 | .inl i=>.int i
 | .inr x=>.str x
inductive HO where
 /-- a list -/
 | lst (xs:List V)
 /-- a tuple (never changes) -/
 | tup (xs:List V)
 /-- a dict whose keys are ints and texts;one whose keys are tuples of ints and texts (the empty one is both) -/
 | dK (kvs:List (Key × V))|dT (kvs:List (List Key × V))
 /-- a set of ints: its members,its size -/
 | set (S:Int->Bool) (n:Nat)
 /-- an instance of the class at C,its dict at dx,its attributes -/
 | ins (C dx:Addr) (fs:List (Str × V))
 /-- the dict of the instance at x -/
 | own (x:Addr)
 /-- the dict of an exception -/
 | xd (fs:List (Str × V))
 /-- a bound method,f of x -/
 | met (f x:Addr)
 /-- a range object lo,lo+1,.. below hi -/
 | rng (lo hi:Int)
 /-- a thing that is known to the object (the script;a dict while a loop walks it): read,never written while it is so -/
 | frz (o:Obj) (u:HO)
 /-- a code object's table -/
 | tbl (ps:Array Value)
 /-- any other thing,by what is true of its one object (a def of one's own: SetO a S n:=HO.ext fun h=>..) -/
 | ext (φ:Heap->Prop)
noncomputable abbrev Hp:=Addr->Option HO
noncomputable def upd (H:Hp) (a:Addr) (o:HO):Hp:=fun b=>if b=a then some o else H b
theorem zA5 {H:Hp}{a:Addr}{o:HO}:upd H a o a=some o:=by unfold upd;rw[xc rfl]
theorem zA2 {H:Hp}{a b:Addr}{o:HO}(h:b≠a):upd H a o b=H b:=by unfold upd;rw[xf h]
theorem zA4 {H:Hp}{a b:Addr}{o:HO}(h:H a=some o) (h':H b=none):a≠b:=by
 intro e;subst e;rw[h]at h';cases h'
section
variable (P:Program) (w:World)
noncomputable def ObjOk (H:Hp) (h:Heap) (a:Addr):HO->Prop
 | .lst xs=>xs.length<=sizeLine/\∃(its:List Value) (n:Nat),Vals xs its/\h.get? a=some { cls:=.type "list",data:=.seq its.toArray n }
 | .tup xs=>xs.length<=sizeLine/\∃its:List Value,Vals xs its/\IsTup h a its.toArray
 | .dK kvs=>kvs.length<=sizeLine/\(a == sysModules)=false/\∃vs,KV kvs vs/\h.DictOf (zAp P w) a vs
 | .dT kvs=>kvs.length<=sizeLine/\(a == sysModules)=false/\∃xs:List (List Key × Addr × Value),
   Paired (fun(p:List Key × V) (q:List Key × Addr × Value)=>p.1=q.1/\H q.2.1=some (.tup (p.1.map kV))/\RelV p.2 q.2.2) kvs xs /\
   ∃o es ep,h.get? a=some o/\o.ExactDict/\o.data=.dict es ep/\es.toList=xs.map (entryOfKey (tupleKind (zAp P w)))/\(xs.map (·.1)).Nodup
 | .set S n=>h.SetOf (intKind P w) a S n
 | .ins C dx fs=>H dx=some (.own a)/\fs.length<=1000/\dx≠a/\h.get? a=some (PySem.W.instObj C dx) /\
   ∃mA,h.Ns1 dx mA/\(∀f,RelO (fs.lookup f) (mA f))/\PySem.Within mA (fs.map (·.1))
 | .own _=>∃o,h.get? a=some o
 | .xd fs=>∃mA,h.Ns1 a mA/\∀f,RelO (fs.lookup f) (mA f)
 | .rng lo hi=>∃t u v,h.get? a=some { cls:=.type "range",data:=.fields #[.int lo t,.int hi u,.int 1 v] }
 | .frz o u=>h.get? a=some o/\ObjOk H h a u
 | .tbl ps=>h.get? a=some { cls:=.none,data:=.fields ps }
 | .met f x=>h.get? a=some (PySem.W.methodObj (.ref f) (.ref x))
 | .ext φ=>φ h/\(∃o,h.get? a=some o)/\∀h1 h2:Heap,φ h1->(∀o,h1.get? a=some o->h2.get? a=some o)->φ h2
noncomputable def HOk (H:Hp) (h:Heap):Prop:=∀a o,H a=some o->ObjOk P w H h a o
end
section
variable {P:Program}{w:World}{H H':Hp}{h h':Heap}{a:Addr}{o:HO}
theorem ObjOk.lt (x:ObjOk P w H h a o):a<h.objs.size:=by
 cases o with
 | lst xs=>obtain⟨_,_,_,_,e⟩:=x;exact xj e
 | tup xs=>obtain⟨_,_,_,p⟩:=x;exact p.lt
 | dK kvs=>obtain⟨_,_,_,_,o,_,_,e,_⟩:=x;exact xj e
 | dT kvs=>obtain⟨_,_,_,_,o,_,_,e,_⟩:=x;exact xj e
 | set S n=>obtain⟨o,_,_,_,e,_⟩:=x;exact xj e
 | ins C dx fs=>obtain⟨_,_,_,e,_⟩:=x;exact xj e
 | own y=>obtain⟨_,e⟩:=x;exact xj e
 | xd fs=>obtain⟨_,⟨_,_,_,e,_⟩,_⟩:=x;exact xj e
 | rng lo hi=>obtain⟨_,_,_,e⟩:=x;exact xj e
 | frz ob u=>obtain⟨e,_⟩:=x;exact xj e
 | tbl ps=>exact xj (show h.get? a=some _ from x)
 | met f y=>exact xj (show h.get? a=some _ from x)
 | ext φ=>obtain⟨_,⟨_,e⟩,_⟩:=x;exact xj e
theorem Paired.mapP {α β:Type}{F G:α->β->Prop}:∀{l₁:List α}{l₂:List β},Paired F l₁ l₂->(∀a b,F a b->G a b)->Paired G l₁ l₂
 | _,_,.nil,_=>.nil
 | _,_,.cons r t,f=>.cons (f _ _ r) (Paired.mapP t f)
theorem ObjOk.stay (x:ObjOk P w H h a o) (k:∀b u,(b=a\/H b=some (.own a))->h.get? b=some u->h'.get? b=some u)
  (ho:∀b,H b=some (.own a)->H' b=some (.own a)) (ht:∀b xs,H b=some (.tup xs)->H' b=some (.tup xs)):ObjOk P w H' h' a o:=by
 induction o with
 | lst xs=>obtain⟨z,its,n,r,e⟩:=x;exact⟨z,its,n,r,k _ _ (.inl rfl) e⟩
 | tup xs=>obtain⟨z,its,r,ob,e,c⟩:=x;exact⟨z,its,r,ob,k _ _ (.inl rfl) e,c⟩
 | dK kvs=>obtain⟨z,y,vs,r,ob,es,ep,e,c⟩:=x;exact⟨z,y,vs,r,ob,es,ep,k _ _ (.inl rfl) e,c⟩
 | dT kvs=>
  obtain⟨z,y,xs,r,ob,es,ep,e,c⟩:=x
  exact⟨z,y,xs,Paired.mapP r fun p q z=>⟨z.1,ht _ _ z.2.1,z.2.2⟩,ob,es,ep,k _ _ (.inl rfl) e,c⟩
 | set S n=>obtain⟨ob,es,ep,t,e,c⟩:=x;exact⟨ob,es,ep,t,k _ _ (.inl rfl) e,c⟩
 | ins C dx fs=>
  obtain⟨d,z,ne,e,mA,⟨od,es,ep,e2,c⟩,r⟩:=x
  exact⟨ho _ d,z,ne,k _ _ (.inl rfl) e,mA,⟨od,es,ep,k _ _ (.inr d) e2,c⟩,r⟩
 | own y=>obtain⟨ob,e⟩:=x;exact⟨ob,k _ _ (.inl rfl) e⟩
 | xd fs=>obtain⟨mA,⟨od,es,ep,e,c⟩,r⟩:=x;exact⟨mA,⟨od,es,ep,k _ _ (.inl rfl) e,c⟩,r⟩
 | rng lo hi=>obtain⟨t,u,v,e⟩:=x;exact⟨t,u,v,k _ _ (.inl rfl) e⟩
 | frz ob u ih=>obtain⟨e,q⟩:=x;exact⟨k _ _ (.inl rfl) e,ih q⟩
 | tbl ps=>
  have e:h.get? a=some { cls:=.none,data:=.fields ps }:=x
  show h'.get? a=some { cls:=.none,data:=.fields ps }
  exact k a _ (.inl rfl) e
 | met f y=>
  have e:h.get? a=some (PySem.W.methodObj (.ref f) (.ref y)):=x
  show h'.get? a=some (PySem.W.methodObj (.ref f) (.ref y))
  exact k a _ (.inl rfl) e
 | ext φ=>obtain⟨p,⟨o,e⟩,st⟩:=x;exact⟨st _ _ p fun o q=>k _ _ (.inl rfl) q,⟨o,k _ _ (.inl rfl) e⟩,st⟩
theorem HOk.lt (x:HOk P w H h) (e:H a=some o):a<h.objs.size:=(x a o e).lt
theorem HOk.fresh (x:HOk P w H h) (e:h.objs.size<=a):H a=none:=by
 cases q:H a with
 | none=>rfl
 | some u=>exact absurd (xv (x.lt q) e) (x5 _)
theorem HOk.kept (x:HOk P w H h) (k:∀b u,h.get? b=some u->h'.get? b=some u):HOk P w H h':=fun a o e=>
 (x a o e).stay (fun b u _ q=>k b u q) (fun _ q=>q) fun _ _ q=>q
theorem HOk.laid (x:HOk P w H h) (k:∀b u,h.get? b=some u->h'.get? b=some u) (hp:h.objs.size<=a) (new:ObjOk P w (upd H a o) h' a o):HOk P w (upd H a o) h':=fun b u e=>by
 have hn:=x.fresh hp
 by_cases hb:b=a
 ·subst hb;rw[zA5]at e;cases e;exact new
 ·rw[zA2 hb]at e
  exact(x b u e).stay (fun c v _ q=>k c v q) (fun c q=>by rw[zA2 (zA4 q hn)];exact q) fun c xs q=>by rw[zA2 (zA4 q hn)];exact q
end
noncomputable def Rd (H:Hp) (a:Addr) (u:HO):Prop:=H a=some u\/∃o,H a=some (.frz o u)
theorem Rd.ok {P:Program}{w:World}{H:Hp}{h:Heap}{a:Addr}{u:HO}(r:Rd H a u) (x:HOk P w H h):ObjOk P w H h a u:=by
 rcases r with r|⟨o,r⟩
 ·exact x a u r
 ·obtain⟨_,q⟩:=x a _ r
  exact q
noncomputable def Mut:Option HO->Prop
 | some (.lst _)=>True
 | some (.dK _)=>True
 | some (.dT _)=>True
 | some (.set _ _)=>True
 | some (.ins _ _ _)=>True
 | some (.ext _)=>True
 | _=>False
section
variable {P:Program}{w:World}{H:Hp}{h h':Heap}{x e:Addr}{o':HO}
theorem HOk.write (ok:HOk P w H h) (mu:Mut (H x)) (he:e=x\/H e=some (.own x)) (k:∀b u,b≠e->h.get? b=some u->h'.get? b=some u) (heo:∃u,h'.get? e=some u)
  (new:ObjOk P w (upd H x o') h' x o'):HOk P w (upd H x o') h':=fun b u q=>by
 have nown:∀c y,H c=some (.own y)->c≠x:=fun c y r z=>by subst z;rw[r]at mu;exact mu
 have ntup:∀c xs,H c=some (.tup xs)->c≠x:=fun c xs r z=>by subst z;rw[r]at mu;exact mu
 by_cases hb:b=x
 ·subst hb;rw[zA5]at q;cases q;exact new
 ·rw[zA2 hb]at q
  by_cases hbe:b=e
  ·have q':H b=some (.own x):=by
    rcases he with z|z
    ·exact absurd (hbe.trans z) hb
    ·rw[hbe];exact z
   rw[q]at q';cases q'
   obtain⟨v,hv⟩:=heo
   exact⟨v,by rw[hbe];exact hv⟩
  ·refine(ok b u q).stay (fun c v hc r=>k c v ?_ r) (fun c r=>by rw[zA2 (nown c b r)];exact r) fun c xs r=>by rw[zA2 (ntup c xs r)];exact r
   rcases hc with rfl|hc
   ·exact hbe
   ·rintro rfl
    rcases he with z|z
    ·exact nown c b hc z
    ·rw[hc]at z;cases z;exact hb rfl
end
structure Un (fs ex:List Addr) (H H':Hp) (h h':Heap):Prop where
 keep:∀b o,h.get? b=some o->H b=none->b ∉ fs->b ∉ ex->h'.get? b=some o
 slot:∀b o,h.get? b=some o->H b=none->b∈fs->b ∉ ex->∃sl,h'.get? b=some { o with slots:=sl }
 free:∀b o,h.get? b=some o->H b=none->b ∉ ex->H' b=none
 there:∀b o,h.get? b=some o->b ∉ ex->∃o',h'.get? b=some o'
 tups:∀b xs,H b=some (.tup xs)->H' b=some (.tup xs)
 frzs:∀b o u,H b=some (.frz o u)->H' b=some (.frz o u)
 tbls:∀b ps,H b=some (.tbl ps)->∃more,H' b=some (.tbl (ps++more))
section
variable {fs fs' ex ex':List Addr}{H H1 H2:Hp}{h h1 h2 h':Heap}{a x e:Addr}{o:HO}
theorem Un.any (u:Un fs ex H H1 h h1) {b:Addr}{ob:Obj}(q:h.get? b=some ob) (n:H b=none) (hx:b ∉ ex):∃sl,h1.get? b=some { ob with slots:=sl }:=by
 by_cases hb:b∈fs
 ·exact u.slot b ob q n hb hx
 ·exact⟨ob.slots,u.keep b ob q n hb hx⟩
theorem Un.kept (k:∀b u,h.get? b=some u->h'.get? b=some u):Un fs ex H H h h':=
 ⟨fun b ob q _ _ _=>k b ob q,fun b ob q _ _ _=>⟨ob.slots,k b ob q⟩,fun _ _ _ n _=>n,fun b ob q _=>⟨ob,k b ob q⟩,fun _ _ q=>q,fun _ _ _ q=>q,fun _ ps q=>⟨#[],by rw[q];simp⟩⟩
theorem Un.refl:Un fs ex H H h h:=Un.kept fun _ _ q=>q
theorem Un.laid (k:∀b u,h.get? b=some u->h'.get? b=some u) (hp:h.objs.size<=a) (hn:H a=none):Un fs ex H (upd H a o) h h' where
 keep:=fun b u q _ _ _=>k b u q
 slot:=fun b u q _ _ _=>⟨u.slots,k b u q⟩
 free:=fun b u q n _=>by rw[zA2 (xt (xv (xj q) hp))];exact n
 there:=fun b u q _=>⟨u,k b u q⟩
 tups:=fun b xs q=>by rw[zA2 (zA4 q hn)];exact q
 frzs:=fun b u xs q=>by rw[zA2 (zA4 q hn)];exact q
 tbls:=fun b ps q=>⟨#[],by rw[zA2 (zA4 q hn),q];simp⟩
theorem Un.write (mu:Mut (H x)) (he:e=x\/H e=some (.own x)) (k:∀b u,b≠e->h.get? b=some u->h'.get? b=some u) (heo:∃u,h'.get? e=some u):Un fs ex H (upd H x o) h h':=by
 have hx:∀b,H b=none->b≠x:=fun b n z=>by subst z;rw[n]at mu;exact mu
 have hb:∀b,H b=none->b≠e:=fun b n z=>by
  subst z
  rcases he with r|r
  ·exact hx b n r
  ·rw[n]at r;cases r
 have hm:∀b u,H b=some u->¬ Mut (some u)->b≠x:=fun b u q nm z=>by subst z;rw[q]at mu;exact nm mu
 refine⟨fun b u q n _ _=>k b u (hb b n) q,fun b u q n _ _=>⟨u.slots,k b u (hb b n) q⟩,fun b u q n _=>by rw[zA2 (hx b n)];exact n,fun b u q _=>?_,
  fun b xs q=>by rw[zA2 (hm b _ q fun z=>z)];exact q,fun b u xs q=>by rw[zA2 (hm b _ q fun z=>z)];exact q,fun b ps q=>⟨#[],by rw[zA2 (hm b _ q fun z=>z),q];simp⟩⟩
 by_cases hbe:b=e
 ·subst hbe;exact heo
 ·exact⟨u,k b u hbe q⟩
end
noncomputable def trk (h:Heap) (H:Hp):List Addr:=(List.range h.objs.size).filter fun a=>(H a).isSome
noncomputable def hidT (h:Heap) (H:Hp):Heap:=PySem.W.hideAll h (trk h H)
theorem zM3 (h:Heap) (H:Hp):(hidT h H).objs.size=h.objs.size:=PySem.W.hideAll_size _ _
theorem zPd {h:Heap}{H:Hp}{b:Addr}{o:Obj}(e:h.get? b=some o) (n:H b=none):(hidT h H).get? b=some o:=
 PySem.W.hideAll_get _ e fun hm=>by
  have q:(H b).isSome=true:=(List.mem_filter.mp hm).2
  rw[n]at q;simp at q
theorem zT9 {h:Heap}{H:Hp}{b:Addr}{o:Obj}(e:(hidT h H).get? b=some o):h.get? b=some o/\H b=none:=by
 have e':h.get? b=some o:=PySem.W.of_hideAll (trk h H) e
 refine⟨e',?_⟩
 cases q:H b with
 | none=>rfl
 | some x=>
  have hm:b∈trk h H:=List.mem_filter.mpr ⟨vy.mpr (xj e'),by simp[q]⟩
  have z:(hidT h H).get? b=none:=PySem.W.hideAll_none (trk h H) hm
  rw[z]at e;cases e
noncomputable def zV7 (g h:Heap) (L:Addr):List (Addr × Obj):=(List.range h.objs.size).filterMap fun a=>if a=L\/(g.get? a).isSome=true then none else(h.get? a).map fun o=>(a,o)
noncomputable def rest (g h:Heap) (L d:Addr):List (Addr × Obj):=(zV7 g h L).filter fun p=>decide (p.1≠d)
end L2
namespace L2
open PySem PySem.Spec PyProof.Rows
structure Mod (K:PySem.W.Frag) (mg:Str->Option Value) (base:Heap):Prop where
 kin:K.In base
 glob:base.Ns mainGlobals mg
 blt:∃mb,base.Ns builtinsNs mb/\∀x:Str,x≠"__name__"->mb x=bootBuiltins x
 nolimit:base.NoLimit
/-- the context: a def's body (or a comprehension's block) running. base: fixed through the whole law;s₀,H₀: the entry;outer: the frames whose slots others may change (a def's callers);stack: all frames that run;
   ex: iterators that were made ahead of the entry and are walked here (a comprehension's);fn: the names whose cells were made at the entry (a def: all;a comprehension's block: its own);calm: not within an except suite;pn: pins that every state bears;xe: what is wanted of an exception that leaves the code -/
structure Cx where
  prog:Program
  w:World
  K:PySem.W.Frag
  mg:Str->Option Value
  base:Heap
  A:Around
  N:List Str
  s₀:Shared
  H₀:Hp
  env:Env
  outer:List Env
  stack:List Env
  ex:List Addr
  fn:Str->Bool
  calm:Bool
  pn:List (Addr × Obj)
  xe:Value->Shared->Prop
noncomputable def frs (l:List Env):List Addr:=l.filterMap (·.frame)
noncomputable abbrev Cx.fs (X:Cx):List Addr:=frs X.outer
noncomputable def Vis (sc:Scope) (x:Str):Prop:=sc.names.lookup x=some .local\/sc.names.lookup x=some .cell\/sc.names.lookup x=some .free
noncomputable def Loc (sc:Scope) (x:Str):Prop:=sc.names.lookup x=some .local\/sc.names.lookup x=some .cell
noncomputable def Look (env:Env) (h:Heap) (m:Str->Option Value) (x:Str) (u:Value):Prop:=
 (env.kindOf x=some .local/\m x=some u)\/((env.kindOf x=some .cell\/env.kindOf x=some .free)/\∃c,env.cells.lookup x=some c/\h.IsCell c (some u))
structure Cx.Ok (X:Cx):Prop where
 mod:Mod X.K X.mg X.base
 kind:X.env.scope.kind=.function
 glob:X.env.globals=mainGlobals
 blt:X.env.builtins=builtinsNs
 above:X.s₀.heap.objs.size<=X.env.locals
 inj:∀x y c,X.env.cells.lookup x=some c->X.env.cells.lookup y=some c->x=y
 has:∀x,(X.env.kindOf x=some .cell\/X.env.kindOf x=some .free)->∃c,X.env.cells.lookup x=some c
 cab:∀x c,X.fn x=true->X.env.cells.lookup x=some c->X.s₀.heap.objs.size<=c
 hd:X.calm=true->X.A.handled=none
 frames:X.A.frames=some X.stack
 stk:X.stack=X.outer\/(X.stack=X.env::X.outer/\X.env.frame=some X.env.locals)
 exf:∀b∈X.ex,b≠X.env.locals/\∀x c,X.env.cells.lookup x=some c->c≠b
 bs:∀b o,X.base.get? b=some o->X.s₀.heap.get? b=some o/\X.H₀ b=none
 bsz:X.base.objs.size<=X.s₀.heap.objs.size
 noex:∀b o,X.base.get? b=some o->b ∉ X.ex
 exfs:∀b∈X.ex,b ∉ X.fs
 funs:X.s₀.heap.FunFrames X.base X.outer
 frf:∀b∈X.fs,X.H₀ b=none
 gds:X.A.guards=some []
structure Inv (X:Cx) (pins:List (Addr × Obj)) (σ:List (Option V)) (H:Hp) (s:Shared):Prop where
 ok:X.Ok
 os:s.os=X.s₀.os
 bare:AllBare s.gens
 base:Un X.fs X.ex X.H₀ H X.s₀.heap s.heap
 loc:∃m,s.heap.Ns X.env.locals m/\∀(i:Nat) (x:Str) (v:V),X.N[i]?=some x->σ[i]?=some (some v)->Vis X.env.scope x->∃u,RelV v u/\Look X.env s.heap m x u
 cell:∀x c,X.env.cells.lookup x=some c->∃v,s.heap.IsCell c v
 free:H X.env.locals=none
 freeC:∀x c,X.env.cells.lookup x=some c->H c=none
 pin:∀p∈X.pn++pins,s.heap.get? p.1=some p.2/\H p.1=none/\p.1≠X.env.locals/\p.1 ∉ X.fs/\∀v,p.2.data≠.cell v
 hok:HOk X.prog X.w H s.heap
 len:σ.length=X.N.length
section
variable {X:Cx}{pins:List (Addr × Obj)}{σ:List (Option V)}{H H':Hp}{s:Shared}{h':Heap}
theorem Cx.Ok.nofr (ok:X.Ok) {b:Addr}{o:Obj}(e:X.base.get? b=some o):b ∉ X.fs:=fun hb=>by
 have:=(ok.funs.mem hb).1
 rw[e]at this;cases this
theorem Inv.bs (I:Inv X pins σ H s):∀b o,X.base.get? b=some o->s.heap.get? b=some o/\H b=none:=fun b o e=>
 ⟨I.base.keep b o (I.ok.bs b o e).1 (I.ok.bs b o e).2 (I.ok.nofr e) (I.ok.noex b o e),I.base.free b o (I.ok.bs b o e).1 (I.ok.bs b o e).2 (I.ok.noex b o e)⟩
theorem Inv.bk (I:Inv X pins σ H s):∀b o,X.base.get? b=some o->s.heap.get? b=some o:=fun b o e=>(I.bs b o e).1
theorem Inv.mod (I:Inv X pins σ H s):Mod X.K X.mg X.base:=I.ok.mod
theorem Inv.kIn (I:Inv X pins σ H s):X.K.In s.heap:=I.ok.mod.kin.keeps I.bk
theorem Inv.lt (I:Inv X pins σ H s):X.env.locals<s.heap.objs.size:=let ⟨_,hn,_⟩:=I.loc;hn.lt
theorem Inv.sz (I:Inv X pins σ H s):X.s₀.heap.objs.size<=s.heap.objs.size:=xp I.ok.above (vm I.lt)
theorem Inv.nofs (I:Inv X pins σ H s) {a:Addr}(h:s.heap.objs.size<=a):a ∉ X.fs:=fun hb=>by
 obtain⟨_,o,ho,_⟩:=I.ok.funs.mem hb
 exact absurd (xv (xj ho) (xp I.sz h)) (x5 _)
theorem Inv.cne (I:Inv X pins σ H s):∀x c,X.env.cells.lookup x=some c->c≠X.env.locals:=fun x c e z=>by
 obtain⟨v,o,ho,hd⟩:=I.cell x c e
 obtain⟨m,⟨o',es,ep,ho',hd',_⟩,_⟩:=I.loc
 rw[z,ho']at ho;cases ho;rw[hd']at hd;cases hd
theorem Inv.funs (I:Inv X pins σ H s):s.heap.FunFrames X.base X.outer:=by
 have all:∀(l:List Env),(∀b∈frs l,b∈X.fs)->X.s₀.heap.FunFrames X.base l->s.heap.FunFrames X.base l:=by
  intro l
  induction l with
  | nil=>intro _ _;trivial
  | cons env r ih=>
   intro hs hl
   obtain⟨hk,⟨L,o,hf,hn,ho,hd⟩,hr⟩:=hl
   have hL:L∈X.fs:=hs L (by unfold frs;rw[vP,hf];exact xN)
   obtain⟨sl,e⟩:=I.base.slot L o ho (I.ok.frf L hL) hL fun z=>I.ok.exfs L z hL
   exact⟨hk,⟨L,_,hf,hn,e,hd⟩,ih (fun b hb=>hs b (by unfold frs;rw[vP,hf];exact xX _ hb)) hr⟩
 exact all X.outer (fun _ hb=>hb) I.ok.funs
theorem Inv.stack (I:Inv X pins σ H s):s.heap.FunFrames X.base X.stack:=by
 rcases I.ok.stk with e|⟨e,hf⟩
 ·rw[e];exact I.funs
 ·rw[e]
  obtain⟨m,hn,_⟩:=I.loc
  refine .cons (by rw[I.ok.kind];decide) hf hn ?_ I.funs
  exact Heap.get?_none_of_le (xp I.ok.bsz I.ok.above)
theorem Inv.stkSub (I:Inv X pins σ H s):∀b∈frs X.stack,b∈X.env.locals::X.fs:=fun b hb=>by
 rcases I.ok.stk with e|⟨e,hf⟩
 ·rw[e]at hb;exact xX _ hb
 ·rw[e]at hb
  unfold frs at hb
  rw[vP,hf]at hb
  exact hb
theorem Inv.stkFree (I:Inv X pins σ H s):∀b∈frs X.stack,H b=none:=fun b hb=>by
 rcases xk.mp (I.stkSub b hb)with e|hb
 ·rw[e];exact I.free
 ·obtain⟨_,o,ho,_⟩:=I.ok.funs.mem hb
  exact I.base.free b o ho (I.ok.frf b hb) fun z=>I.ok.exfs b z hb
theorem Inv.step {g':Array GenState}{t':Nat}{d':Drawn}{ch:List Addr}(I:Inv X pins σ H s)
  (hch:∀b∈ch,(b∈X.ex\/X.s₀.heap.objs.size<=b)/\b≠X.env.locals/\(∀x c,X.env.cells.lookup x=some c->c≠b)/\∀p∈X.pn++pins,p.1≠b)
  (keep:∀b o,b≠X.env.locals->b ∉ X.fs->b ∉ ch->s.heap.get? b=some o->H b=none->h'.get? b=some o)
  (slot:∀b o,b≠X.env.locals->b∈X.fs->b ∉ ch->s.heap.get? b=some o->H b=none->∃sl,h'.get? b=some { o with slots:=sl }) (free:∀b o,b ∉ ch->s.heap.get? b=some o->H b=none->H' b=none)
  (there:∀b o,b ∉ ch->s.heap.get? b=some o->∃o',h'.get? b=some o')
  (tups:∀b xs,H b=some (.tup xs)->H' b=some (.tup xs)) (frzs:∀b o u,H b=some (.frz o u)->H' b=some (.frz o u)) (tbls:∀b ps,H b=some (.tbl ps)->∃more,H' b=some (.tbl (ps++more)))
  (ns:∀m,s.heap.Ns X.env.locals m->h'.Ns X.env.locals m) (hok:HOk X.prog X.w H' h') (hg:AllBare g'):
  Inv X pins σ H' { s with heap:=h',gens:=g',drawn:=d',toks:=t' }:=by
 have neL:∀b o,X.s₀.heap.get? b=some o->b≠X.env.locals:=fun b o e=>xt (xv (xj e) I.ok.above)
 have neC:∀b o,X.s₀.heap.get? b=some o->b ∉ X.ex->b ∉ ch:=fun b o e hx hb=>by
  rcases(hch b hb).1 with z|z
  ·exact hx z
  ·exact absurd (xv (xj e) z) (x5 _)
 have cellK:∀x c,X.env.cells.lookup x=some c->∀v,s.heap.IsCell c v->h'.IsCell c v:=fun x c e v hq1=>by
  obtain⟨o,ho,hd⟩:=hq1
  have nch:c ∉ ch:=fun z=>(hch c z).2.2.1 x c e rfl
  by_cases hc:c∈X.fs
  ·obtain⟨sl,q⟩:=slot c o (I.cne x c e) hc nch ho (I.freeC x c e)
   exact⟨_,q,hd⟩
  ·exact⟨o,keep c o (I.cne x c e) hc nch ho (I.freeC x c e),hd⟩
 refine⟨I.ok,I.os,hg,⟨fun b o e n hb hx=>?_,fun b o e n hb hx=>?_,fun b o e n hx=>?_,fun b o e hx=>?_,fun b xs e=>tups b xs (I.base.tups b xs e),fun b o xs e=>frzs b o xs (I.base.frzs b o xs e),fun b ps e=>?_⟩,?_,fun x c e=>?_,?_,fun x c e=>?_,fun p hp=>?_,hok,I.len⟩
 ·exact keep b o (neL b o e) hb (neC b o e hx) (I.base.keep b o e n hb hx) (I.base.free b o e n hx)
 ·obtain⟨sl,e1⟩:=I.base.slot b o e n hb hx
  obtain⟨sl',e2⟩:=slot b _ (neL b o e) hb (neC b o e hx) e1 (I.base.free b o e n hx)
  exact⟨sl',e2⟩
 ·obtain⟨o',e1⟩:=I.base.there b o e hx
  exact free b o' (neC b o e hx) e1 (I.base.free b o e n hx)
 ·obtain⟨o',e1⟩:=I.base.there b o e hx
  exact there b o' (neC b o e hx) e1
 ·obtain⟨m1,e1⟩:=I.base.tbls b ps e
  obtain⟨m2,e2⟩:=tbls b _ e1
  exact⟨m1++m2,by rw[e2,Array.append_assoc]⟩
 ·obtain⟨m,hn,hl⟩:=I.loc
  refine⟨m,ns m hn,fun i x v e1 e2 e3=>?_⟩
  obtain⟨u,r,l⟩:=hl i x v e1 e2 e3
  refine⟨u,r,?_⟩
  rcases l with l|⟨k,c,e,z⟩
  ·exact .inl l
  ·exact .inr ⟨k,c,e,cellK x c e _ z⟩
 ·obtain⟨v,z⟩:=I.cell x c e
  exact⟨v,cellK x c e v z⟩
 ·obtain⟨m,⟨o,_,_,ho,_⟩,_⟩:=I.loc
  exact free _ o (fun z=>(hch _ z).2.1 rfl) ho I.free
 ·obtain⟨v,o,ho,hd⟩:=I.cell x c e
  exact free c o (fun z=>(hch c z).2.2.1 x c e rfl) ho (I.freeC x c e)
 ·obtain⟨e,n,ne,nf,d⟩:=I.pin p hp
  have nch:p.1 ∉ ch:=fun z=>(hch p.1 z).2.2.2 p hp rfl
  exact⟨keep p.1 p.2 ne nf nch e n,free p.1 p.2 nch e n,ne,nf,d⟩
theorem Inv.un {t':Nat}(I:Inv X pins σ H s) (u:Un X.fs [] H H' s.heap h') (hok:HOk X.prog X.w H' h'):Inv X pins σ H' { s with heap:=h',toks:=t' }:=by
 obtain⟨m,⟨o,es,ep,ho,r⟩,_⟩:=id I.loc
 obtain⟨sl,hL⟩:=u.any ho I.free (by simp)
 exact I.step (g':=s.gens) (d':=s.drawn) (ch:=[]) (fun _ z=>nomatch z) (fun b o _ hb _ e n=>u.keep b o e n hb (by simp)) (fun b o _ hb _ e n=>u.slot b o e n hb (by simp)) (fun b o _ e n=>u.free b o e n (by simp)) (fun b o _ e=>u.there b o e (by simp)) u.tups u.frzs u.tbls (fun m' hm=>by
  obtain⟨o',es',ep',ho',r'⟩:=hm
  rw[ho]at ho';cases ho'
  exact⟨_,es',ep',hL,r'⟩) hok I.bare
theorem Inv.call {g':Array GenState}{t':Nat}{d':Drawn}{ch:List Addr}(I:Inv X pins σ H s) (u:Un (frs X.stack) ch H H' s.heap h') (hok:HOk X.prog X.w H' h') (hg:AllBare g')
  (hch:∀b∈ch,(b∈X.ex\/X.s₀.heap.objs.size<=b)/\b≠X.env.locals/\(∀x c,X.env.cells.lookup x=some c->c≠b)/\∀p∈X.pn++pins,p.1≠b):
  Inv X pins σ H' { s with heap:=h',gens:=g',drawn:=d',toks:=t' }:=by
 obtain⟨m,⟨o,es,ep,ho,r⟩,_⟩:=id I.loc
 obtain⟨sl,hL⟩:=u.any ho I.free fun z=>(hch _ z).2.1 rfl
 exact I.step (ch:=ch) hch (fun b o hL hb hc e n=>u.keep b o e n (fun z=>(xk.mp (I.stkSub b z)).elim hL hb) hc) (fun b o _ _ hc e n=>u.any e n hc) (fun b o hc e n=>u.free b o e n hc) (fun b o hc e=>u.there b o e hc) u.tups u.frzs u.tbls (fun m' hm=>by
  obtain⟨o',es',ep',ho',r'⟩:=hm
  rw[ho]at ho';cases ho'
  exact⟨_,es',ep',hL,r'⟩) hok hg
theorem Inv.turned {t':Nat}{it:Addr}(I:Inv X pins σ H s) (k:∀b o,b≠it->s.heap.get? b=some o->h'.get? b=some o) (hn:H it=none) (hL:it≠X.env.locals)
  (h1:it∈X.ex\/X.s₀.heap.objs.size<=it) (h2:∀x c,X.env.cells.lookup x=some c->c≠it) (h3:∀p∈X.pn++pins,p.1≠it):Inv X pins σ H { s with heap:=h',toks:=t' }:=by
 have nit:∀b u,H b=some u->b≠it:=fun b u e z=>by rw[z,hn]at e;cases e
 refine I.step (g':=s.gens) (d':=s.drawn) (ch:=[it]) (fun b hb=>?_) (fun b o _ _ hc e _=>k b o (fun z=>hc (by simp[z])) e) (fun b o _ _ hc e _=>⟨o.slots,k b o (fun z=>hc (by simp[z])) e⟩) (fun _ _ _ _ n=>n)
  (fun b o hc e=>⟨o,k b o (fun z=>hc (by simp[z])) e⟩) (fun _ _ e=>e) (fun _ _ _ e=>e) (fun b ps e=>⟨#[],by rw[e];simp⟩) (fun m hm=>?_) (fun b u e=>?_) I.bare
 ·have e:b=it:=by simpa using hb
  subst e
  exact⟨h1,hL,h2,h3⟩
 ·obtain⟨o,es,ep,ho,r⟩:=hm
  exact⟨o,es,ep,k _ o (xr hL) ho,r⟩
 ·refine(I.hok b u e).stay (fun c v hc q=>k c v ?_ q) (fun _ q=>q) fun _ _ q=>q
  rcases hc with z|z
  ·rw[z];exact nit b u e
  ·exact nit c _ z
theorem Inv.tok (I:Inv X pins σ H s) (t:Nat):Inv X pins σ H { s with toks:=t }:=I.un (h':=s.heap) (t':=t) Un.refl I.hok
theorem Inv.kept {t':Nat}(I:Inv X pins σ H s) (k:∀b u,s.heap.get? b=some u->h'.get? b=some u):Inv X pins σ H { s with heap:=h',toks:=t' }:=I.un (Un.kept k) (I.hok.kept k)
theorem Inv.laid {a:Addr}{o:HO}{t':Nat}(I:Inv X pins σ H s) (k:∀b u,s.heap.get? b=some u->h'.get? b=some u) (hp:s.heap.objs.size<=a) (new:ObjOk X.prog X.w (upd H a o) h' a o):
  Inv X pins σ (upd H a o) { s with heap:=h',toks:=t' }:=I.un (Un.laid k hp (I.hok.fresh hp)) (I.hok.laid k hp new)
theorem Inv.write {x e:Addr}{o:HO}{t':Nat}(I:Inv X pins σ H s) (mu:Mut (H x)) (he:e=x\/H e=some (.own x)) (k:∀b u,b≠e->s.heap.get? b=some u->h'.get? b=some u) (heo:∃u,h'.get? e=some u)
  (new:ObjOk X.prog X.w (upd H x o) h' x o):Inv X pins σ (upd H x o) { s with heap:=h',toks:=t' }:=I.un (Un.write mu he k heo) (I.hok.write mu he k heo new)
theorem Inv.pins_of {pins':List (Addr × Obj)}(I:Inv X pins σ H s) (h:∀p∈pins',s.heap.get? p.1=some p.2/\H p.1=none/\p.1≠X.env.locals/\p.1 ∉ X.fs/\∀v,p.2.data≠.cell v):Inv X pins' σ H s:=
 ⟨I.ok,I.os,I.bare,I.base,I.loc,I.cell,I.free,I.freeC,fun p hp=>(vn.mp hp).elim (fun z=>I.pin p (vQ _ z)) (h p),I.hok,I.len⟩
theorem zHx {N:List Str}(hN:N.Nodup) {i j:Nat}{x:Str}(a:N[i]?=some x) (b:N[j]?=some x):i=j:=by
 obtain⟨h1,e1⟩:=xI.mp a
 obtain⟨h2,e2⟩:=xI.mp b
 exact(List.getElem_inj hN).mp (e1.trans e2.symm)
theorem zFa {M:Model}{A:Around}{E:Value->Shared->Prop}{i:Nat}{x:Str}{v:V}{u:Value}{Q:Unit->Shared->Prop}(I:Inv X pins σ H s) (hN:X.N.Nodup) (hi:X.N[i]?=some x) (hx:Loc X.env.scope x) (r:RelV v u)
  (h:∀s',Inv X pins (σ.set i (some v)) H s'->(∃a,Heap.SameBut a s.heap s'.heap/\(a=X.env.locals\/X.env.cells.lookup x=some a))->Q () s') (hf:X.fn x=true\/X.env.scope.names.lookup x=some .local:=by first|exact .inl rfl|exact .inr rfl|assumption):wpAny M A (storeName X.env x u) Q E s:=by
 obtain⟨m,hn,hl⟩:=id I.loc
 have hcls:(X.env.scope.kind == .class || (X.env.scope.kind == .module && X.env.locals != X.env.globals))=false:=by rw[I.ok.kind];rfl
 have hiσ:i<σ.length:=by rw[I.len];exact(xI.mp hi).1
 have cne:=I.cne
 have tracked:∀{a:Addr}{h':Heap},(∃o,s.heap.get? a=some o/\H a=none)->Heap.SameBut a s.heap h'->HOk X.prog X.w H h':=fun {a h'} ha hs b ob e=>by
  obtain⟨_,_,hfree⟩:=ha
  refine(I.hok b ob e).stay (fun c w' hc q=>(hs.2 c ?_).trans q) (fun _ q=>q) fun _ _ q=>q
  rintro rfl
  rcases hc with rfl|hc
  ·rw[hfree]at e;cases e
  ·rw[hfree]at hc;cases hc
 rcases hx with hk|hk
 ·refine wpAny_storeName_local hk hn (fun h' hn' hs=>?_) hcls
  obtain⟨oL,_,_,hoL,_⟩:=id hn
  refine h _ ⟨I.ok,I.os,I.bare,⟨fun b o e n hb hx=>?_,fun b o e n hb hx=>?_,I.base.free,fun b o e hx=>?_,I.base.tups,I.base.frzs,I.base.tbls⟩,⟨_,hn',fun j y v' e1 e2 e3=>?_⟩,fun y c e=>?_,I.free,I.freeC,fun p hp=>?_,tracked ⟨oL,hoL,I.free⟩ hs,by simpa using I.len⟩ ⟨_,hs,.inl rfl⟩
  ·exact(hs.2 b (xt (xv (xj e) I.ok.above))).trans (I.base.keep b o e n hb hx)
  ·obtain⟨sl,e1⟩:=I.base.slot b o e n hb hx
   exact⟨sl,(hs.2 b (xt (xv (xj e) I.ok.above))).trans e1⟩
  ·obtain⟨o',e1⟩:=I.base.there b o e hx
   exact⟨o',(hs.2 b (xt (xv (xj e) I.ok.above))).trans e1⟩
  ·by_cases hj:j=i
   ·subst hj
    rw[hi]at e1;cases e1
    rw[xY hiσ]at e2
    cases e2
    exact⟨u,r,.inl ⟨hk,by simp⟩⟩
   ·rw[xF (xr hj)]at e2
    obtain⟨u',r',q⟩:=hl j y v' e1 e2 e3
    refine⟨u',r',?_⟩
    rcases q with⟨k,e⟩|⟨k,c,e,z⟩
    ·refine .inl ⟨k,?_⟩
     have:y≠x:=fun e=>hj (zHx hN e1 (e ▸ hi))
     simp[this,e]
    ·exact .inr ⟨k,c,e,z.sameBut hs (cne y c e)⟩
  ·obtain⟨w',z⟩:=I.cell y c e
   exact⟨w',z.sameBut hs (cne y c e)⟩
  ·obtain⟨e,n,ne,nf,d⟩:=I.pin p hp
   exact⟨(hs.2 p.1 ne).trans e,n,ne,nf,d⟩
 ·have hfn:X.fn x=true:=by
   rcases hf with z|z
   ·exact z
   ·rw[z]at hk;cases hk
  obtain⟨c,hc⟩:=I.ok.has x (.inl hk)
  obtain⟨w',z⟩:=I.cell x c hc
  refine wpAny_storeName_cell I.ok.kind hk hc z (fun h' hc' hs=>?_)
  obtain⟨oc,hoc,hocd⟩:=id z
  refine h { s with heap:=h' } ⟨I.ok,I.os,I.bare,⟨fun b o e n hb hx=>?_,fun b o e n hb hx=>?_,I.base.free,fun b o e hx=>?_,I.base.tups,I.base.frzs,I.base.tbls⟩,⟨m,hn.sameBut hs (xr (cne x c hc)),fun j y v' e1 e2 e3=>?_⟩,fun y c' e=>?_,I.free,I.freeC,fun p hp=>?_,tracked ⟨oc,hoc,I.freeC x c hc⟩ hs,by simpa using I.len⟩ ⟨c,hs,.inr hc⟩
  ·exact(hs.2 b (xt (xv (xj e) (I.ok.cab x c hfn hc)))).trans (I.base.keep b o e n hb hx)
  ·obtain⟨sl,e1⟩:=I.base.slot b o e n hb hx
   exact⟨sl,(hs.2 b (xt (xv (xj e) (I.ok.cab x c hfn hc)))).trans e1⟩
  ·obtain⟨o',e1⟩:=I.base.there b o e hx
   exact⟨o',(hs.2 b (xt (xv (xj e) (I.ok.cab x c hfn hc)))).trans e1⟩
  ·by_cases hj:j=i
   ·subst hj
    rw[hi]at e1;cases e1
    rw[xY hiσ]at e2
    cases e2
    exact⟨u,r,.inr ⟨.inl hk,c,hc,hc'⟩⟩
   ·rw[xF (xr hj)]at e2
    obtain⟨u',r',q⟩:=hl j y v' e1 e2 e3
    refine⟨u',r',?_⟩
    rcases q with q|⟨k,c',e,z'⟩
    ·exact .inl q
    ·refine .inr ⟨k,c',e,z'.sameBut hs ?_⟩
     rintro rfl
     exact hj (zHx hN e1 (I.ok.inj _ _ _ e hc ▸ hi))
  ·by_cases hcc:c'=c
   ·subst hcc;exact⟨_,hc'⟩
   ·obtain⟨w2,z2⟩:=I.cell y c' e
    exact⟨w2,z2.sameBut hs hcc⟩
  ·obtain⟨e,n,ne,nf,d⟩:=I.pin p hp
   refine⟨(hs.2 p.1 ?_).trans e,n,ne,nf,d⟩
   intro q
   rw[q,hoc]at e
   have q':oc=p.2:=xD e
   exact d w' (by rw[<- q'];exact hocd)
theorem zBm {M:Model}{A:Around}{E:Value->Shared->Prop}{i:Nat}{x:Str}{v:V}{u:Value}{Q:Unit->Shared->Prop}(I:Inv X pins σ H s) (hN:X.N.Nodup) (hi:X.N[i]?=some x) (hx:Loc X.env.scope x) (r:RelV v u)
  (h:∀s',Inv X pins (σ.set i (some v)) H s'->Q () s') (hf:X.fn x=true\/X.env.scope.names.lookup x=some .local:=by first|exact .inl rfl|exact .inr rfl|assumption):wpAny M A (storeName X.env x u) Q E s:=
 zFa I hN hi hx r (fun s' I' _=>h s' I') hf
theorem Inv.call' {s':Shared}{ch:List Addr}(I:Inv X pins σ H s) (ho:s'.os=s.os) (u:Un (frs X.stack) ch H H' s.heap s'.heap) (hok:HOk X.prog X.w H' s'.heap) (hg:AllBare s'.gens)
  (hch:∀b∈ch,(b∈X.ex\/X.s₀.heap.objs.size<=b)/\b≠X.env.locals/\(∀x c,X.env.cells.lookup x=some c->c≠b)/\∀p∈X.pn++pins,p.1≠b):Inv X pins σ H' s':=by
 obtain⟨h',g',d',t',o'⟩:=s'
 have e:o'=s.os:=ho
 subst e
 exact I.call (g':=g') (t':=t') (d':=d') u hok hg hch
end
noncomputable abbrev XK:=Value->Option Addr->Hp->Prop
noncomputable abbrev St:=List (Option V)
noncomputable abbrev VK:=V->Hp->Prop
noncomputable abbrev TE:=St->Hp->VK->Prop
noncomputable abbrev TT:=St->Hp->(Bool->Hp->Prop)->Prop
noncomputable abbrev TA:=St->Hp->(List V->Hp->Prop)->Prop
structure Ends where
 nx:St->Hp->Prop
 rt:VK
 bk:St->Hp->Prop:=fun _ _=>False
 ct:St->Hp->Prop:=fun _ _=>False
noncomputable abbrev TS:=Ends->St->Hp->Prop
noncomputable def EP (X:Cx) (pins:List (Addr × Obj)) (σ:St) (Q:VK) (u:Value) (s':Shared):Prop:=∃v H',Inv X pins σ H' s'/\RelV v u/\Q v H'
noncomputable def TP (X:Cx) (pins:List (Addr × Obj)) (σ:St) (Q:Bool->Hp->Prop) (b:Bool) (s':Shared):Prop:=∃H',Inv X pins σ H' s'/\Q b H'
noncomputable def AP (X:Cx) (pins:List (Addr × Obj)) (σ:St) (Q:List V->Hp->Prop) (us:List Value) (s':Shared):Prop:=∃vs H',Inv X pins σ H' s'/\Vals vs us/\Q vs H'
noncomputable def SP (X:Cx) (pins:List (Addr × Obj)) (D:Ends) (f:Flow) (s':Shared):Prop:=
 match f with
 | .next=>∃σ' H',Inv X pins σ' H' s'/\D.nx σ' H'
 | .brk=>∃σ' H',Inv X pins σ' H' s'/\D.bk σ' H'
 | .cont=>∃σ' H',Inv X pins σ' H' s'/\D.ct σ' H'
 | .ret u=>∃v σ' H',Inv X pins σ' H' s'/\RelV v u/\D.rt v H'
noncomputable def PE (X:Cx) (e:Expr) (t:TE):Prop:=
 ∀(pins:List (Addr × Obj)) (s:Shared) (σ:St) (H:Hp) (Q:VK),Inv X pins σ H s->t σ H Q->wpAny (model X.prog X.w) X.A (eval e X.env) (EP X pins σ Q) X.xe s
noncomputable def PT (X:Cx) (e:Expr) (t:TT):Prop:=
 ∀(pins:List (Addr × Obj)) (s:Shared) (σ:St) (H:Hp) (Q:Bool->Hp->Prop),Inv X pins σ H s->t σ H Q->wpAny (model X.prog X.w) X.A (isTrue e X.env (eval e X.env)) (TP X pins σ Q) X.xe s
noncomputable def PW (X:Cx) (e:Expr) (t:TT):Prop:=
 ∀(whole:Sem Value) (pins:List (Addr × Obj)) (s:Shared) (σ:St) (H:Hp) (Q:Bool->Hp->Prop),Inv X pins σ H s->t σ H Q->wpAny (model X.prog X.w) X.A (isTrue e X.env whole) (TP X pins σ Q) X.xe s
theorem PW.pt {X:Cx}{e:Expr}{t:TT}(h:PW X e t):PT X e t:=h _
noncomputable def PA (X:Cx) (es:List Expr) (t:TA):Prop:=
 ∀(pos:Pos) (pins:List (Addr × Obj)) (s:Shared) (σ:St) (H:Hp) (Q:List V->Hp->Prop),Inv X pins σ H s->t σ H Q->wpAny (model X.prog X.w) X.A (spliced (backTo pos (starEach es X.env))) (AP X pins σ Q) X.xe s
noncomputable def PS (X:Cx) (st:Stmt) (t:TS):Prop:=
 ∀(pins:List (Addr × Obj)) (s:Shared) (σ:St) (H:Hp) (D:Ends),Inv X pins σ H s->t D σ H->wpAny (model X.prog X.w) X.A (exec st X.env) (SP X pins D) X.xe s
noncomputable def PSs (X:Cx) (st:List Stmt) (t:TS):Prop:=
 ∀(pins:List (Addr × Obj)) (s:Shared) (σ:St) (H:Hp) (D:Ends),Inv X pins σ H s->t D σ H->wpAny (model X.prog X.w) X.A (execs st X.env) (SP X pins D) X.xe s
theorem thn {α:Type}{t:Sem α}{Q Q':α->Shared->Prop}{M:Model}{A:Around}{E:Value->Shared->Prop}{s:Shared}(h:wpAny M A t Q E s) (hQ:∀a s,Q a s->Q' a s):wpAny M A t Q' E s:=xJ h hQ fun _ _ x=>x
end L2
namespace L2
open PySem PySem.Spec PyProof.Rows
section
variable {X:Cx}
noncomputable def tVar (i:Nat):TE:=fun σ H Q=>∃v,σ[i]?=some (some v)/\Q v H
noncomputable def tC (v:V):TE:=fun _ H Q=>Q v H
theorem zWo {i:Nat}{x:Str}{pos:Pos}(hN:X.N[i]?=some x) (hv:Vis X.env.scope x) (hd:(x == ("__debug__":Str))=false:=by decide) (hcd:(x == ("__classdict__":Str))=false:=by decide):PE X (.Name x pos) (tVar i):=by
 intro pins s σ H Q I h
 obtain⟨v,e,h⟩:=h
 obtain⟨m,hn,hl⟩:=I.loc
 obtain⟨u,r,l⟩:=hl i x v hN e hv
 have fin:EP X pins σ Q u s:=⟨v,H,I,r,h⟩
 rcases l with⟨hk,hm⟩|⟨hk,c,hc,hcell⟩
 ·exact wpAny_Name (wpAny_loadName_local I.ok.kind hk hn hm fin) hd
 ·rcases hk with hk|hk
  ·exact wpAny_Name (wpAny_loadName_cell I.ok.kind hk hc hcell fin) hd
  ·exact wpAny_Name (wpAny_loadName_free I.ok.kind hk hc hcell fin hcd) hd
theorem zWx {i j pos}:PE X (.Constant (.int i) j pos) (tC (.int i)):=fun _ _ _ H _ I h=>wpAny_Constant_int ⟨.int i,H,I.tok _,⟨_,rfl⟩,h⟩
theorem yAd {b j pos}:PE X (.Constant (.bool b) j pos) (tC (.bl b)):=fun _ _ _ H _ I h=>Constant_bool ⟨.bl b,H,I,rfl,h⟩
theorem zWv {j pos}:PE X (.Constant .none j pos) (tC .non):=fun _ _ _ H _ I h=>Constant_none ⟨.non,H,I,rfl,h⟩
theorem zWr {x j pos}:PE X (.Constant (.str x) j pos) (tC (.str x)):=fun _ _ _ H _ I h=>Calls.Constant_str ⟨.str x,H,I.tok _,⟨_,rfl⟩,h⟩
noncomputable def Gl (X:Cx) (x:Str):Prop:=X.env.kindOf x=some .globalImplicit
theorem zD3 {E:Value->Shared->Prop}{pins:List (Addr × Obj)}{s:Shared}{σ:St}{H:Hp}{x:Str}{u:Value}{pos:Pos}{Q:Value->Shared->Prop}(I:Inv X pins σ H s) (hg:Gl X x) (hm:X.mg x=some u) (h:Q u s)
  (hd:(x == ("__debug__":Str))=false:=by decide):wpAny (model X.prog X.w) X.A (eval (.Name x pos) X.env) Q E s:=
 Calls.Name_function_global I.ok.kind hg (Calls.loadGlobal_global (by rw[I.ok.glob];exact I.mod.glob.keeps I.bk) hm h) hd
theorem zC6 {E:Value->Shared->Prop}{pins:List (Addr × Obj)}{s:Shared}{σ:St}{H:Hp}{x:Str}{u:Value}{pos:Pos}{Q:Value->Shared->Prop}(I:Inv X pins σ H s) (hg:Gl X x) (hm:X.mg x=none) (hv:bootBuiltins x=some u) (h:Q u s)
  (hn:x≠"__name__":=by decide) (hd:(x == ("__debug__":Str))=false:=by decide):wpAny (model X.prog X.w) X.A (eval (.Name x pos) X.env) Q E s:=by
 obtain⟨mb,h1,h2⟩:=I.mod.blt
 exact Calls.Name_function_global I.ok.kind hg (Calls.loadGlobal_builtin (by rw[I.ok.glob];exact I.mod.glob.keeps I.bk) hm (by rw[I.ok.blt];exact h1.keeps I.bk) ((h2 x hn).trans hv) h) hd
theorem zSs {x:Str}{v:V}{u:Value}{pos:Pos}(hg:Gl X x) (hm:X.mg x=some u) (r:RelV v u) (hd:(x == ("__debug__":Str))=false:=by decide):PE X (.Name x pos) (tC v):=
 fun _ _ _ H _ I h=>zD3 I hg hm ⟨v,H,I,r,h⟩ hd
theorem zSw {x:Str}{v:V}{u:Value}{pos:Pos}(hg:Gl X x) (hm:X.mg x=none) (hv:bootBuiltins x=some u) (r:RelV v u) (hn:x≠"__name__":=by decide) (hd:(x == ("__debug__":Str))=false:=by decide):PE X (.Name x pos) (tC v):=
 fun _ _ _ H _ I h=>zC6 I hg hm hv ⟨v,H,I,r,h⟩ hn hd
variable {a b:Expr}{ta tb:TE}{pos:Pos}
variable {tA tB':TT}{rest:List Expr}
noncomputable def tAnd (t u:TT):TT:=fun σ H Q=>t σ H fun c H1=>if c=true then u σ H1 Q else Q false H1
noncomputable def tOr (t u:TT):TT:=fun σ H Q=>t σ H fun c H1=>if c=true then Q true H1 else u σ H1 Q
noncomputable def tNot (t:TT):TT:=fun σ H Q=>t σ H fun c H1=>Q (!c) H1
theorem zS8 (ha:PT X a tA):PW X (.BoolOp .And [a] pos) tA:=by
 intro wh pins s σ H Q I h
 refine isTrue_and (thn (ha pins s σ H Q I h) fun c s1 e=>?_)
 cases c with
 | true=>exact isTrue_and_nil e
 | false=>exact e
theorem zW9 (ha:PT X a tA):PW X (.BoolOp .Or [a] pos) tA:=by
 intro wh pins s σ H Q I h
 refine isTrue_or (thn (ha pins s σ H Q I h) fun c s1 e=>?_)
 cases c with
 | false=>exact isTrue_or_nil e
 | true=>exact e
theorem zWb (ha:PT X a tA) (hb:PW X (.BoolOp .And (b::rest) pos) tB'):PW X (.BoolOp .And (a::b::rest) pos) (tAnd tA tB'):=by
 intro wh pins s σ H Q I h
 refine isTrue_and (thn (ha pins s σ H _ I h) fun c s1 hq1=>?_)
 obtain⟨H1,I1,q1⟩:=hq1
 cases c with
 | true=>exact hb wh pins s1 σ H1 Q I1 q1
 | false=>exact⟨H1,I1,q1⟩
theorem yA2 (ha:PT X a tA) (hb:PW X (.BoolOp .Or (b::rest) pos) tB'):PW X (.BoolOp .Or (a::b::rest) pos) (tOr tA tB'):=by
 intro wh pins s σ H Q I h
 refine isTrue_or (thn (ha pins s σ H _ I h) fun c s1 hq1=>?_)
 obtain⟨H1,I1,q1⟩:=hq1
 cases c with
 | true=>exact⟨H1,I1,q1⟩
 | false=>exact hb wh pins s1 σ H1 Q I1 q1
theorem zWd (ha:PT X a tA):PT X (.UnaryOp .Not a pos) (tNot tA):=by
 intro pins s σ H Q I h
 exact isTrue_not (ha pins s σ H (fun c H1=>Q (!c) H1) I h)
noncomputable def zVr (ta tb:TE):TE:=fun σ H Q=>ta σ H fun x H1=>∃c,x=.bl c/\if c=true then tb σ H1 Q else Q (.bl false) H1
noncomputable def tOrV (ta tb:TE):TE:=fun σ H Q=>ta σ H fun x H1=>∃c,x=.bl c/\if c=true then Q (.bl true) H1 else tb σ H1 Q
theorem zWu {op}{t:TE}(h:PE X a t):PE X (.BoolOp op [a] pos) t:=fun pins s σ H Q I hw=>BoolOp_one (h pins s σ H Q I hw)
theorem zX3 (ha:PE X a ta) (hb:PE X (.BoolOp .And (b::rest) pos) tb):PE X (.BoolOp .And (a::b::rest) pos) (zVr ta tb):=by
 intro pins s σ H Q I h
 refine BoolOp_and (thn (ha pins s σ H _ I h) fun v s1 hq1=>?_)
 obtain⟨x,H1,I1,r1,q1⟩:=hq1
 obtain⟨c,rfl,q1⟩:=q1
 cases r1
 refine ve ?_
 cases c with
 | true=>exact hb pins s1 σ H1 Q I1 q1
 | false=>exact⟨.bl false,H1,I1,rfl,q1⟩
theorem yA9 (ha:PE X a ta) (hb:PE X (.BoolOp .Or (b::rest) pos) tb):PE X (.BoolOp .Or (a::b::rest) pos) (tOrV ta tb):=by
 intro pins s σ H Q I h
 refine BoolOp_or (thn (ha pins s σ H _ I h) fun v s1 hq1=>?_)
 obtain⟨x,H1,I1,r1,q1⟩:=hq1
 obtain⟨c,rfl,q1⟩:=q1
 cases r1
 refine ve ?_
 cases c with
 | false=>exact hb pins s1 σ H1 Q I1 q1
 | true=>exact⟨.bl true,H1,I1,rfl,q1⟩
noncomputable def tIf (t:TT) (ta tb:TE):TE:=fun σ H Q=>t σ H fun c H1=>if c=true then ta σ H1 Q else tb σ H1 Q
theorem zOk {c:Expr}(hc:PT X c tA) (ha:PE X a ta) (hb:PE X b tb):PE X (.IfExp c a b pos) (tIf tA ta tb):=by
 intro pins s σ H Q I h
 refine wpAny_IfExp (thn (hc pins s σ H _ I h) fun d s1 hq1=>?_)
 obtain⟨H1,I1,q1⟩:=hq1
 cases d with
 | true=>exact ha pins s1 σ H1 Q I1 q1
 | false=>exact hb pins s1 σ H1 Q I1 q1
end
end L2
namespace L2
open PySem PySem.Spec PyProof.Rows
noncomputable def SqL (K:PySem.W.Frag) (H:Hp) (a:Addr) (xs:List V):Prop:=
 Rd H a (.lst xs) \/
  ∃(o:Obj) (its:Array Value) (n:Nat),K.lookup a=some o/\o.cls=.type "list"/\o.dict=none/\o.data=.seq its n/\its.size<=sizeLine/\Vals xs its.toList
noncomputable def SqT (K:PySem.W.Frag) (H:Hp) (a:Addr) (xs:List V):Prop:=
 Rd H a (.tup xs) \/
  ∃(o:Obj) (its:Array Value) (n:Nat),K.lookup a=some o/\o.cls=.type "tuple"/\o.data=.seq its n/\its.size<=sizeLine/\Vals xs its.toList
noncomputable def absV:Value->Option V
 | .none=>some .non
 | .bool b=>some (.bl b)
 | .int i _=>some (.int i)
 | .str x _=>some (.str x)
 | .bytes b _=>some (.byt b)
 | .float b _=>some (.flt b)
 | .ref a=>some (.ref a)
 | .type n=>some (.ty n)
 | _=>none
theorem RelV.abs {x:V}{u:Value}(r:RelV x u):absV u=some x:=by
 cases x with
 | non=>cases r;rfl
 | bl _=>cases r;rfl
 | int _=>obtain⟨t,rfl⟩:=r;rfl
 | str _=>obtain⟨t,rfl⟩:=r;rfl
 | byt _=>obtain⟨t,rfl⟩:=r;rfl
 | flt _=>obtain⟨t,rfl⟩:=r;rfl
 | ref _=>cases r;rfl
 | ty _=>cases r;rfl
theorem RelV.inj {x y:V}{u:Value}(r:RelV x u) (q:RelV y u):x=y:=xD (r.abs.symm.trans q.abs)
theorem Vals.inj:∀{xs ys:List V}{us:List Value},Vals xs us->Vals ys us->xs=ys
 | _,_,_,.nil,.nil=>rfl
 | _,_,_,.cons r t,.cons r' t'=>by rw[r.inj r',Vals.inj t t']
section
variable {X:Cx}{pins:List (Addr × Obj)}{σ:St}{H:Hp}{s:Shared}{a:Addr}{xs ys:List V}
theorem SqL.of {K:PySem.W.Frag}(h:H a=some (.lst xs)):SqL K H a xs:=.inl (.inl h)
theorem SqT.of {K:PySem.W.Frag}(h:H a=some (.tup xs)):SqT K H a xs:=.inl (.inl h)
theorem Inv.list (I:Inv X pins σ H s) (h:SqL X.K H a xs):∃its:List Value,Vals xs its/\PlainL s.heap a its.toArray/\xs.length<=sizeLine:=by
 rcases h with h|⟨o,its,n,hk,hc,hd,hs,hz,r⟩
 ·obtain⟨z,its,n,r,e⟩:=h.ok I.hok
  exact⟨its,r,⟨_,n,e,rfl,rfl,rfl⟩,z⟩
 ·refine⟨its.toList,r,⟨o,n,I.kIn a o hk,hc,hd,by simpa using hs⟩,?_⟩
  have e:=r.length
  simp only[uq]at e
  lia
theorem Inv.tuple (I:Inv X pins σ H s) (h:SqT X.K H a xs):∃its:List Value,Vals xs its/\IsTup s.heap a its.toArray/\xs.length<=sizeLine:=by
 rcases h with h|⟨o,its,n,hk,hc,hs,hz,r⟩
 ·obtain⟨z,its,r,p⟩:=h.ok I.hok
  exact⟨its,r,p,z⟩
 ·refine⟨its.toList,r,⟨o,I.kIn a o hk,hc,n,by simpa using hs⟩,?_⟩
  have e:=r.length
  simp only[uq]at e
  lia
theorem Inv.list_inj (I:Inv X pins σ H s) (h:SqL X.K H a xs) (h':SqL X.K H a ys):xs=ys:=by
 obtain⟨its,r,⟨o,n,e,_,_,d⟩,_⟩:=I.list h
 obtain⟨its',r',⟨o',n',e',_,_,d'⟩,_⟩:=I.list h'
 rw[e]at e';cases e'
 rw[d]at d'
 injection d' with d1 _
 have:its=its':=by simpa using congrArg Array.toList d1
 subst this
 exact r.inj r'
theorem Inv.tuple_inj (I:Inv X pins σ H s) (h:SqT X.K H a xs) (h':SqT X.K H a ys):xs=ys:=by
 obtain⟨its,r,⟨o,e,_,n,d⟩,_⟩:=I.tuple h
 obtain⟨its',r',⟨o',e',_,n',d'⟩,_⟩:=I.tuple h'
 rw[e]at e';cases e'
 rw[d]at d'
 injection d' with d1 _
 have:its=its':=by simpa using congrArg Array.toList d1
 subst this
 exact r.inj r'
end
noncomputable abbrev Cx.wish (X:Cx) (E:Value->Shared->Prop):Cx:={ X with xe:=E }
noncomputable abbrev Cx.nox (X:Cx):Cx:=X.wish fun _ _=>False
theorem Cx.Ok.wish {X:Cx}(ok:X.Ok) (E:Value->Shared->Prop):(X.wish E).Ok:=
 ⟨ok.mod,ok.kind,ok.glob,ok.blt,ok.above,ok.inj,ok.has,ok.cab,ok.hd,ok.frames,ok.stk,ok.exf,ok.bs,ok.bsz,ok.noex,ok.exfs,ok.funs,ok.frf,ok.gds⟩
theorem Cx.Ok.unwish {X:Cx}{E:Value->Shared->Prop}(ok:(X.wish E).Ok):X.Ok:=
 ⟨ok.mod,ok.kind,ok.glob,ok.blt,ok.above,ok.inj,ok.has,ok.cab,ok.hd,ok.frames,ok.stk,ok.exf,ok.bs,ok.bsz,ok.noex,ok.exfs,ok.funs,ok.frf,ok.gds⟩
section
variable {X:Cx}{pins:List (Addr × Obj)}{σ:St}{H:Hp}{s:Shared}{E:Value->Shared->Prop}
theorem Inv.wish (I:Inv X pins σ H s) (E:Value->Shared->Prop):Inv (X.wish E) pins σ H s:=⟨I.ok.wish E,I.os,I.bare,I.base,I.loc,I.cell,I.free,I.freeC,I.pin,I.hok,I.len⟩
theorem Inv.unwish (I:Inv (X.wish E) pins σ H s):Inv X pins σ H s:=⟨I.ok.unwish,I.os,I.bare,I.base,I.loc,I.cell,I.free,I.freeC,I.pin,I.hok,I.len⟩
theorem SP.unwish {D:Ends}{f:Flow}{s':Shared}(h:SP (X.wish E) pins D f s'):SP X pins D f s':=by
 cases f with
 | next=>obtain⟨σ',H',I,q⟩:=h;exact⟨σ',H',I.unwish,q⟩
 | brk=>obtain⟨σ',H',I,q⟩:=h;exact⟨σ',H',I.unwish,q⟩
 | cont=>obtain⟨σ',H',I,q⟩:=h;exact⟨σ',H',I.unwish,q⟩
 | ret u=>obtain⟨v,σ',H',I,r,q⟩:=h;exact⟨v,σ',H',I.unwish,r,q⟩
theorem PE.nox {e:Expr}{t:TE}(h:PE X.nox e t):PE X e t:=fun pins s σ H Q I hw=>
 xJ (h pins s σ H Q (I.wish _) hw) (fun _ _ hz1=>by obtain⟨v,H',I',r,q⟩:=hz1;exact ⟨v,H',I'.unwish,r,q⟩) fun _ _ z=>False.elim z
theorem PT.nox {e:Expr}{t:TT}(h:PT X.nox e t):PT X e t:=fun pins s σ H Q I hw=>
 xJ (h pins s σ H Q (I.wish _) hw) (fun _ _ hz2=>by obtain⟨H',I',q⟩:=hz2;exact ⟨H',I'.unwish,q⟩) fun _ _ z=>False.elim z
theorem PSs.nox {st:List Stmt}{t:TS}(h:PSs X.nox st t):PSs X st t:=fun pins s σ H D I hw=>
 xJ (h pins s σ H D (I.wish _) hw) (fun _ _ q=>q.unwish) fun _ _ z=>False.elim z
end
section
variable {X:Cx}{st:Stmt}{rest:List Stmt}{t u:TS}{e:Expr}{te:TE}{pos:Pos}
noncomputable def zVp:TS:=fun D σ H=>D.nx σ H
noncomputable def tSeq (t u:TS):TS:=fun D σ H=>t { D with nx:=u D } σ H
theorem zSe:PSs X [] zVp:=fun _ _ σ H _ I h=>ur ⟨σ,H,I,h⟩
theorem zO6 (h1:PS X st t) (h2:PSs X rest u):PSs X (st::rest) (tSeq t u):=by
 intro pins s σ H D I h
 refine wpAny_execs_cons (thn (h1 pins s σ H { D with nx:=u D } I h) fun f s1 q=>?_)
 cases f with
 | next=>
  obtain⟨σ',H',I',q⟩:=q
  exact h2 pins s1 σ' H' D I' q
 | ret v=>exact q
 | brk=>exact q
 | cont=>exact q
theorem zSd (h1:PS X st t):PSs X [st] t:=by
 intro pins s σ H D I h
 refine wpAny_execs_cons (thn (h1 pins s σ H D I h) fun f s1 q=>?_)
 cases f with
 | next=>exact ur q
 | ret v=>exact q
 | brk=>exact q
 | cont=>exact q
theorem Inv.quiet {pins:List (Addr × Obj)}{σ:St}{H:Hp}{s:Shared}(I:Inv X pins σ H s):interactive X.env=false:=by simp[interactive,I.ok.kind]
noncomputable def zRn (te:TE):TS:=fun D σ H=>te σ H fun _ H1=>D.nx σ H1
theorem zSh (he:PE X e te) (hs:swapsWith e none pos.line X.env=pure false:=by rfl):PS X (.Expr e pos) (zRn te):=by
 intro pins s σ H D I h
 exact wpAny_Expr_any (thn (he pins s σ H _ I h) fun v s1 hz3=>by obtain⟨x,H1,I1,r1,q1⟩:=hz3;exact ⟨σ,H1,I1,q1⟩) I.quiet hs
noncomputable def tRet (te:TE):TS:=fun D σ H=>te σ H D.rt
theorem zWg (he:PE X e te):PS X (.Return (some e) pos) (tRet te):=by
 intro pins s σ H D I h
 exact wpAny_Return_some (thn (he pins s σ H _ I h) fun v s1 hz4=>by obtain⟨x,H1,I1,r1,q1⟩:=hz4;exact ⟨x,σ,H1,I1,r1,q1⟩)
noncomputable def tIfS (c:TT) (t u:TS):TS:=fun D σ H=>c σ H fun b H1=>if b=true then t D σ H1 else u D σ H1
theorem yA5 {c:Expr}{a b:List Stmt}{tc:TT}(hc:PT X c tc) (ha:PSs X a t) (hb:PSs X b u):PS X (.If c a b pos) (tIfS tc t u):=by
 intro pins s σ H D I h
 refine wpAny_If (thn (hc pins s σ H _ I h) fun d s1 hq1=>?_)
 obtain⟨H1,I1,q1⟩:=hq1
 cases d with
 | true=>exact ha pins s1 σ H1 D I1 q1
 | false=>exact hb pins s1 σ H1 D I1 q1
end
noncomputable abbrev TG:=V->St->Hp->(St->Hp->Prop)->Prop
noncomputable abbrev TGs:=List V->St->Hp->(St->Hp->Prop)->Prop
noncomputable def PG (X:Cx) (target:Expr) (t:TG):Prop:=
 ∀(pins:List (Addr × Obj)) (s:Shared) (σ:St) (H:Hp) (v:V) (u:Value) (Q:St->Hp->Prop),Inv X pins σ H s->RelV v u->t v σ H Q->
  wpAny (model X.prog X.w) X.A (assign target X.env u) (fun _ s'=>∃σ' H',Inv X pins σ' H' s'/\Q σ' H') X.xe s
noncomputable def PGs (X:Cx) (ts:List Expr) (t:TGs):Prop:=
 ∀(pins:List (Addr × Obj)) (s:Shared) (σ:St) (H:Hp) (vs:List V) (us:List Value) (Q:St->Hp->Prop),Inv X pins σ H s->Vals vs us->t vs σ H Q->
  wpAny (model X.prog X.w) X.A (assignInOrder ((assignEach ts X.env).map (·.2)) us) (fun _ s'=>∃σ' H',Inv X pins σ' H' s'/\Q σ' H') X.xe s
noncomputable abbrev TSet:=V->V->V->Hp->(Hp->Prop)->Prop
noncomputable def PSet (X:Cx) (t:TSet):Prop:=
 ∀(pins:List (Addr × Obj)) (s:Shared) (σ:St) (H:Hp) (o i v:V) (ov iv u:Value) (Q:Hp->Prop),Inv X pins σ H s->RelV o ov->RelV i iv->RelV v u->t o i v H Q->
  wpAny (model X.prog X.w) X.A (setItem ov iv u) (fun _ s'=>∃H',Inv X pins σ H' s'/\Q H') X.xe s
section
variable {X:Cx}{pos:Pos}
noncomputable def gName (i:Nat):TG:=fun v σ H Q=>Q (σ.set i (some v)) H
theorem zSn {i:Nat}{x:Str}(hN:X.N.Nodup) (hi:X.N[i]?=some x) (hx:Loc X.env.scope x) (hf:X.fn x=true\/X.env.scope.names.lookup x=some .local:=by first|exact .inl rfl|exact .inr rfl|assumption):PG X (.Name x pos) (gName i):=by
 intro pins s σ H v u Q I r h
 exact wpAny_assign_Name (zBm I hN hi hx r (fun s' I'=>⟨_,H,I',h⟩) hf)
noncomputable def gNil:TGs:=fun vs σ H Q=>vs=[]/\Q σ H
noncomputable def zTy (t:TG) (u:TGs):TGs:=fun vs σ H Q=>∃v r,vs=v::r/\t v σ H fun σ' H'=>u r σ' H' Q
theorem zSl:PGs X [] gNil:=by
 intro pins s σ H vs us Q I r h
 obtain⟨e,h⟩:=h
 subst e
 cases r
 exact assignInOrder_nil ⟨σ,H,I,h⟩
theorem zOg {e:Expr}{es:List Expr}{t:TG}{u:TGs}(h1:PG X e t) (h2:PGs X es u)
  (hs:(assignEach (e::es) X.env).map (·.2)=assign e X.env::(assignEach es X.env).map (·.2):=by rfl):PGs X (e::es) (zTy t u):=by
 intro pins s σ H vs us Q I r h
 obtain⟨v,vr,e1,h⟩:=h
 subst e1
 cases r with
 | cons r rr=>
  rw[hs]
  refine assignInOrder_cons (thn (h1 pins s σ H _ _ _ I r h) fun _ s1 hq1=>?_)
  obtain⟨σ1,H1,I1,q1⟩:=hq1
  exact h2 pins s1 σ1 H1 _ _ Q I1 rr q1
noncomputable def gTup (K:PySem.W.Frag) (n:Nat) (t:TGs):TG:=fun v σ H Q=>∃a xs,v=.ref a/\SqT K H a xs/\xs.length=n/\t xs σ H Q
theorem zWm {es:List Expr}{k:Nat}{t:TGs}{n:Nat}(hc:X.calm=true) (h:PGs X es t)
  (hn:(assignEach es X.env).length=n:=by rfl) (hst:(assignEach es X.env).findIdx? (·.1)=none:=by rfl):PG X (.Tuple es k pos) (gTup X.K n t):=by
 intro pins s σ H v u Q I r hw
 obtain⟨a,xs,e1,hq,hl,hw⟩:=hw
 subst e1
 cases r
 obtain⟨its,rv,ht,hz⟩:=I.tuple hq
 refine assign_Tuple_tuple (I.ok.hd hc) ht (by simp[hn,<- hl,rv.length]) hst fun h' hx=>?_
 have I1:Inv X pins σ H { s with heap:=h' }:=I.kept (t':=s.toks) fun b o e=>hx b o (xt (xj e)) e
 exact h pins _ σ H xs _ Q I1 (by simpa using rv) hw
noncomputable def gSub (to ti:TE) (t:TSet):TG:=fun v σ H Q=>to σ H fun o H1=>ti σ H1 fun i H2=>t o i v H2 fun H3=>Q σ H3
theorem zWn {o i:Expr}{to ti:TE}{t:TSet}(ho:PE X o to) (hi:PE X i ti) (hs:PSet X t)
  (ha:∀v,assign (.Subscript o i pos) X.env v=(do
   let ov <- holding [v] (eval o X.env)
   let iv <- holding [v,ov] (eval i X.env)
   standAt pos
   holding [v,ov,iv] (setItem ov iv v)
   release [v,ov,iv] []):=by intro _;rfl):PG X (.Subscript o i pos) (gSub to ti t):=by
 intro pins s σ H v u Q I r h
 rw[ha]
 refine xa (xG (thn (ho pins s σ H _ I h) fun ov s1 hq1=>?_))
 obtain⟨x,H1,I1,r1,q1⟩:=hq1
 refine xa (xG (thn (hi pins s1 σ H1 _ I1 q1) fun iv s2 hq1=>?_))
 obtain⟨y,H2,I2,r2,q2⟩:=hq1
 refine xa (ua (xa (xG (thn (hs pins s2 σ H2 x y v ov iv u _ I2 r1 r2 r q2) fun _ s3 hq1=>?_))))
 obtain⟨H3,I3,q3⟩:=hq1
 exact wpAny_release ⟨σ,H3,I3,q3⟩
noncomputable def tAsg (te:TE) (g:TG):TS:=fun D σ H=>te σ H fun x H1=>g x σ H1 D.nx
theorem zWk {tg e:Expr}{te:TE}{g:TG}(he:PE X e te) (hg:PG X tg g) (hs:swapsWithSole [tg] e pos.line X.env=pure false:=by rfl) (hw:swappedStores [tg] e X.env=pure none:=by rfl)
  (h1:(assignEach [tg] X.env).map (·.2)=[assign tg X.env]:=by rfl):PS X (.Assign [tg] e pos) (tAsg te g):=by
 intro pins s σ H D I h
 refine wpAny_Assign_stores (thn (he pins s σ H _ I h) fun v s1 hq1=>?_) hs hw
 obtain⟨x,H1,I1,r1,q1⟩:=hq1
 rw[h1]
 exact thn (hg pins s1 σ H1 x v _ I1 r1 q1) fun _ s2 q=>q
theorem zWf {i:Nat}{x:Str}{e:Expr}{te:TE}{pos':Pos}(hN:X.N.Nodup) (hi:X.N[i]?=some x) (hx:Loc X.env.scope x) (he:PE X e te) (hs:swapsWith e (some (.Name x pos')) pos.line X.env=pure false:=by rfl) (hf:X.fn x=true\/X.env.scope.names.lookup x=some .local:=by first|exact .inl rfl|exact .inr rfl|assumption):
  PS X (.Assign [.Name x pos'] e pos) (tAsg te (gName i)):=by
 intro pins s σ H D I h
 refine wpAny_Assign_Name (thn (he pins s σ H _ I h) fun v s1 hq1=>?_) hs
 obtain⟨y,H1,I1,r1,q1⟩:=hq1
 exact zBm I1 hN hi hx r1 (fun s2 I2=>⟨_,H1,I2,q1⟩) hf
noncomputable def tPar (i j:Nat) (ta:TA):TS:=fun D σ H=>ta σ H fun vs H1=>∃v w,vs=[v,w]/\D.nx ((σ.set i (some v)).set j (some w)) H1
theorem zWh {i j:Nat}{x y:Str}{a b:Expr}{ta:TA}{px py pt:Pos}{kt k2 pt2} (hc:X.calm=true) (hN:X.N.Nodup) (hi:X.N[i]?=some x) (hj:X.N[j]?=some y) (hij:i≠j)
  (hx:X.env.scope.names.lookup x=some .local) (hy:X.env.scope.names.lookup y=some .local) (ha:PA X [a,b] ta)
  (hw:swappedStores [.Tuple [.Name x px,.Name y py] kt pt] (.Tuple [a,b] k2 pt2) X.env=pure (some [x,y]))
  (hs:swapsWithSole [.Tuple [.Name x px,.Name y py] kt pt] (.Tuple [a,b] k2 pt2) pos.line X.env=pure false:=by rfl):
  PS X (.Assign [.Tuple [.Name x px,.Name y py] kt pt] (.Tuple [a,b] k2 pt2) pos) (tPar i j ta):=by
 intro pins s σ H D I h
 rw[exec_Assign_arm]
 refine xa (ua ?_)
 rw[hs]
 refine xa (xg ?_)
 rw[xf (by decide)]
 refine xa (Tuple_ (thn (ha _ pins s σ H _ I h) fun us s1 hq1=>?_))
 obtain⟨vs,H1,I1,r1,q1⟩:=hq1
 obtain⟨v,w,e1,q1⟩:=q1
 subst e1
 obtain⟨u1,u2,rfl,rv,rw'⟩:∃u1 u2,us=[u1,u2]/\RelV v u1/\RelV w u2:=by
  cases r1 with
  | cons p q=>
   cases q with
   | cons p' q'=>
    cases q'
    exact⟨_,_,rfl,p,p'⟩
 refine vf ?_ (by show 2<=sizeLine;decide)
 have I2:Inv X pins σ H1 { s1 with heap:=s1.heap.push { cls:=.type "tuple",data:=.seq [u1,u2].toArray } }:=I1.kept (t':=s1.toks) fun b o e=>xi _ e
 rw[hw]
 refine xa (xg ?_)
 show wpAny (model X.prog X.w) X.A (do rule "assign.swapped-stores";let items <- unpackItems (.ref s1.heap.objs.size) 2 none;assignInOrder [fun v=>bindName X.env y v,fun v=>bindName X.env x v] items.reverse;pure Flow.next) _ _ _
 refine xa (vg (xa (unpackItems_tuple (items:=#[u1,u2]) (I.ok.hd hc) (IsTup.new s1.heap _) fun h' hx'=>?_)))
 have I3:=I2.kept (h':=h') (t':=s1.toks) fun b o e=>hx' b o (xt (xj e)) e
 show wpAny _ _ (assignInOrder [fun v=>bindName X.env y v,fun v=>bindName X.env x v] [u2,u1] >>= fun _=>pure Flow.next) _ _ _
 refine xa (assignInOrder_cons (wpAny_bindName (zBm I3 hN hj (.inl hy) rw' (fun s2 I4=>?_) (.inr hy))))
 refine assignInOrder_cons (wpAny_bindName (zBm I4 hN hi (.inl hx) rv (fun s3 I5=>assignInOrder_nil (xg ?_)) (.inr hx)))
 rw[List.set_comm _ _ (xr hij)]at I5
 exact⟨_,H1,I5,q1⟩
end
section
variable {X:Cx}{pos:Pos}
noncomputable def zQ8 (c:TT) (tb:TS):TS:=fun D σ H=>∃W:Nat->St->Hp->Prop,(∃m,W m σ H)/\∀m σ H,W m σ H->
 c σ H fun b H1=>if b=true then ∃N:St->Hp->Prop,(∀σ' H',N σ' H'->∃m',m'<m/\W m' σ' H')/\tb { D with nx:=N,ct:=N,bk:=D.nx } σ H1 else D.nx σ H1
theorem zO7 {c:Expr}{body:List Stmt}{tc:TT}{tb:TS}(hp:PassesOwn (model X.prog X.w) X.A X.env X.xe) (hc:PT X c tc) (hb:PSs X body tb):PS X (.While c body [] pos) (zQ8 tc tb):=by
 intro pins s σ H D I h
 obtain⟨W,⟨m0,w0⟩,turn⟩:=h
 refine wpAny_While (codeAny_whileLoop (fun n s'=>∃σ' H',Inv X pins σ' H' s'/\W n σ' H') ?_ m0 ⟨σ,H,I,w0⟩)
 rintro n s1 ⟨σ1,H1,I1,w1⟩
 refine ub hp (thn (hc pins s1 σ1 H1 _ I1 (turn n σ1 H1 w1)) fun b s2 hq1=>?_)
 obtain⟨H2,I2,q2⟩:=hq1
 cases b with
 | true=>
  obtain⟨N,hN,q2⟩:=q2
  rw[xc rfl]
  refine ub hp (thn (hb pins s2 σ1 H2 _ I2 q2) fun f s3 q3=>?_)
  cases f with
  | next=>
   obtain⟨σ3,H3,I3,n3⟩:=q3
   obtain⟨m',hm,w3⟩:=hN σ3 H3 n3
   exact⟨m',hm,σ3,H3,I3,w3⟩
  | cont=>
   obtain⟨σ3,H3,I3,n3⟩:=q3
   obtain⟨m',hm,w3⟩:=hN σ3 H3 n3
   exact⟨m',hm,σ3,H3,I3,w3⟩
  | brk=>exact q3
  | ret v=>exact q3
 | false=>
  rw[xf uF]
  exact ur ⟨σ1,H2,I2,q2⟩
end
structure It where
 go:Nat->Hp->Prop
 yld:Nat->Hp->V->Hp->Prop
 stop:Nat->Hp->Prop
noncomputable def FpOk (X:Cx) (pins:List (Addr × Obj)) (H:Hp) (b:Addr):Prop:=
 H b=none/\b≠X.env.locals/\b ∉ X.fs/\(b∈X.ex\/X.s₀.heap.objs.size<=b)/\(∀x c,X.env.cells.lookup x=some c->c≠b)/\∀p∈X.pn++pins,p.1≠b
theorem Inv.fpOk {X:Cx}{pins:List (Addr × Obj)}{σ:St}{H H':Hp}{s:Shared}{b:Addr}(I:Inv X pins σ H s) (hb:s.heap.objs.size<=b) (hn:H' b=none):FpOk X pins H' b:=by
 refine⟨hn,vz (xv I.lt hb),I.nofs hb,.inr (xp I.sz hb),fun x c e z=>?_,fun p hp z=>?_⟩
 ·obtain⟨v,q⟩:=I.cell x c e
  exact absurd (xv q.lt (by rw[z];exact hb)) (x5 _)
 ·exact absurd (xv (xj (I.pin p hp).1) (by rw[z];exact hb)) (x5 _)
structure Turn (P:Program) (w:World) (K:PySem.W.Frag) (tg:Expr) (J:It) (fp:List Addr) (it:Addr) (tn:Nat->Heap->Prop):Prop where
 mem:it∈fp
 obj:∀i h,tn i h->∀b∈fp,∃o,h.get? b=some o/\∀v,o.data≠.cell v
 keep:∀i h h',tn i h->(∀b∈fp,∀o,h.get? b=some o->h'.get? b=some o)->tn i h'
 item:∀(X:Cx),X.prog=P->X.w=w->X.K=K->X.calm=true->∀(i:Nat) (pins:List (Addr × Obj)) (s:Shared) (σ:St) (H:Hp) (E:Value->Shared->Prop),Inv X pins σ H s->(∀b∈fp,FpOk X pins H b)->tn i s.heap->J.go i H->
  wpAny (model P w) X.A (pyNext (.ref it)) (fun r s1=>∃u,r=some u /\
   wpAny (model P w) X.A (letOwnedTupleGo tg (.ref it) u) (fun _ s2=>∃x H',Inv X pins σ H' s2/\RelV x u/\J.yld i H x H'/\tn (i+1) s2.heap/\∀b∈fp,H' b=none) E s1) E s
 done:∀(X:Cx),X.prog=P->X.w=w->X.K=K->X.calm=true->∀(i:Nat) (pins:List (Addr × Obj)) (s:Shared) (σ:St) (H:Hp) (E:Value->Shared->Prop),Inv X pins σ H s->(∀b∈fp,FpOk X pins H b)->tn i s.heap->J.stop i H->
  wpAny (model P w) X.A (pyNext (.ref it)) (fun r s1=>r=none/\Inv X pins σ H s1) E s
 self:∀(A:Around) (i:Nat) (s:Shared) (Q:Value->Shared->Prop) (E:Value->Shared->Prop),tn i s.heap->Q (.ref it) s->wpAny (model P w) A (pyIter (.ref it)) Q E s
noncomputable abbrev TI:=St->Hp->(It->Hp->Prop)->Prop
noncomputable def PIE (X:Cx) (pins:List (Addr × Obj)) (σ:St) (tg:Expr) (R:It->Hp->Prop) (itv:Value) (s2:Shared):Prop:=
 ∃(it:Addr) (fp:List Addr) (tn:Nat->Heap->Prop) (J:It) (H':Hp),itv=.ref it/\Inv X pins σ H' s2/\Turn X.prog X.w X.K tg J fp it tn/\tn 0 s2.heap/\(∀b∈fp,FpOk X pins H' b)/\R J H'
noncomputable def PI (X:Cx) (tg iter:Expr) (wi:TI):Prop:=
 ∀(pins:List (Addr × Obj)) (s:Shared) (σ:St) (H:Hp) (R:It->Hp->Prop),Inv X pins σ H s->wi σ H R->
  wpAny (model X.prog X.w) X.A (eval iter X.env) (fun v s1=>wpAny (model X.prog X.w) X.A (pyIter v) (PIE X pins σ tg R) X.xe s1) X.xe s
theorem zPe {M:Model}{A:Around}{E:Value->Shared->Prop}{s:Shared}{tg:Expr}{it:Addr}{u:Value}{o:Obj}{n:String}{vs:Array Value}{Q:Unit->Shared->Prop}(ho:s.heap.get? it=some o) (hc:o.cls=.type n) (hd:o.data=.fields vs)
    (hn:["enumerate","zip","dict_itemiterator","dict_reverseitemiterator","odict_iterator","itertools.zip_longest","itertools.pairwise"].contains n=false) (hQ:Q () s):wpAny M A (letOwnedTupleGo tg (.ref it) u) Q E s:=by
  unfold letOwnedTupleGo
  cases tg <;> first
    | exact xg hQ
    | (cases u <;> first
        | exact xg hQ
        | (refine xa (wpAny_load ho ?_)
           rw[hc,hd]
           show wpAny M A (if(["enumerate","zip","dict_itemiterator","dict_reverseitemiterator","odict_iterator","itertools.zip_longest","itertools.pairwise"].contains n && vs[0]? == some (rawInt _))=true then _ else _) Q E s
           rw[xf (by intro h;rw[hn,Bool.false_and]at h;cases h)]
           exact xg hQ))
noncomputable def Itl (K:PySem.W.Frag) (a:Addr):It:=
 ⟨fun i H=>∃xs x,SqL K H a xs/\xs[i]?=some x,fun i H x H'=>H'=H/\∀xs,SqL K H a xs->xs[i]?=some x,fun i H=>∃xs,SqL K H a xs/\xs.length<=i⟩
noncomputable def Itt (K:PySem.W.Frag) (a:Addr):It:=
 ⟨fun i H=>∃xs x,SqT K H a xs/\xs[i]?=some x,fun i H x H'=>H'=H/\∀xs,SqT K H a xs->xs[i]?=some x,fun i H=>∃xs,SqT K H a xs/\xs.length<=i⟩
noncomputable def Itr (lo:Int) (n:Nat):It:=⟨fun i _=>i<n,fun i H x H'=>H'=H/\x=.int (lo+i),fun i _=>n<=i⟩
theorem zK1 {P:Program}{w:World}{K:PySem.W.Frag}{tg:Expr}(a it:Addr):Turn P w K tg (Itl K a) [it] it (fun i h=>h.IsListIter it a i) where
 mem:=by simp
 obj:=fun i h st b hb=>by
  have e:b=it:=by simpa using hb
  subst e
  obtain⟨o,e,c,d⟩:=st
  exact⟨o,e,fun v z=>by rw[d]at z;cases z⟩
 keep:=fun i h h' st k=>st.at fun o e=>k it (by simp) o e
 item:=by
  intro X hP hw hK hc i pins s σ H E I hf st hg
  subst hP hw hK
  obtain⟨xs,x,hq,hx⟩:=hg
  obtain⟨its,rv,p,hz⟩:=I.list hq
  obtain⟨u,hu,ru⟩:=rv.get hx
  obtain⟨f0,f1,f2,f3,f4,f5⟩:=hf it (by simp)
  refine wpAny_pyNext_list_item st p.isList (x:=u) (by simpa using hu) fun h' st' sb=>?_
  have I1:Inv X pins σ H { s with heap:=h' }:=I.turned (t':=s.toks) (fun b o hb e=>(sb.2 b hb).trans e) f0 f1 f3 f4 f5
  obtain⟨o,e,c,d⟩:=id st'
  exact⟨u,rfl,zPe (s:={ s with heap:=h' }) e c d (by decide) ⟨x,H,I1,ru,⟨rfl,fun ys hy=>by rw[I.list_inj hy hq];exact hx⟩,st',fun b hb=>(hf b hb).1⟩⟩
 done:=by
  intro X hP hw hK hc i pins s σ H E I hf st hg
  subst hP hw hK
  obtain⟨xs,hq,hx⟩:=hg
  obtain⟨its,rv,p,hz⟩:=I.list hq
  obtain⟨f0,f1,f2,f3,f4,f5⟩:=hf it (by simp)
  have hl:=rv.length
  exact wpAny_pyNext_list_end (I.ok.hd hc) st p.isList (by simp;lia) fun h' eb=>⟨rfl,I.turned (t':=s.toks) (fun b o hb e=>eb b o hb e) f0 f1 f3 f4 f5⟩
 self:=fun _ _ _ _ _ st h=>wpAny_pyIter_listiter st h
theorem zIx {P:Program}{w:World}{K:PySem.W.Frag}{tg:Expr}(a it:Addr):Turn P w K tg (Itt K a) [it] it (fun i h=>h.IsTupleIter it a i) where
 mem:=by simp
 obj:=fun i h st b hb=>by
  have e:b=it:=by simpa using hb
  subst e
  obtain⟨o,e,c,d⟩:=st
  exact⟨o,e,fun v z=>by rw[d]at z;cases z⟩
 keep:=fun i h h' st k=>st.at fun o e=>k it (by simp) o e
 item:=by
  intro X hP hw hK hc i pins s σ H E I hf st hg
  subst hP hw hK
  obtain⟨xs,x,hq,hx⟩:=hg
  obtain⟨its,rv,p,hz⟩:=I.tuple hq
  obtain⟨u,hu,ru⟩:=rv.get hx
  obtain⟨f0,f1,f2,f3,f4,f5⟩:=hf it (by simp)
  refine wpAny_pyNext_tuple_item st (show s.heap.IsTuple a its.toArray from p) (x:=u) (by simpa using hu) fun h' st' sb=>?_
  have I1:Inv X pins σ H { s with heap:=h' }:=I.turned (t':=s.toks) (fun b o hb e=>(sb.2 b hb).trans e) f0 f1 f3 f4 f5
  obtain⟨o,e,c,d⟩:=id st'
  exact⟨u,rfl,zPe (s:={ s with heap:=h' }) e c d (by decide) ⟨x,H,I1,ru,⟨rfl,fun ys hy=>by rw[I.tuple_inj hy hq];exact hx⟩,st',fun b hb=>(hf b hb).1⟩⟩
 done:=by
  intro X hP hw hK hc i pins s σ H E I hf st hg
  subst hP hw hK
  obtain⟨xs,hq,hx⟩:=hg
  obtain⟨its,rv,p,hz⟩:=I.tuple hq
  obtain⟨f0,f1,f2,f3,f4,f5⟩:=hf it (by simp)
  have hl:=rv.length
  exact wpAny_pyNext_tuple_end (I.ok.hd hc) st (show s.heap.IsTuple a its.toArray from p) (by simp;lia) fun h' eb=>⟨rfl,I.turned (t':=s.toks) (fun b o hb e=>eb b o hb e) f0 f1 f3 f4 f5⟩
 self:=fun _ _ _ _ _ st h=>wpAny_pyIter_tupleiter st h
theorem zIy {P:Program}{w:World}{K:PySem.W.Frag}{tg:Expr}(it:Addr) (lo:Int) (n:Nat):Turn P w K tg (Itr lo n) [it] it (fun i h=>IsRangeIter h it (lo+(i:Nat)*1) ((n:Int)-(i:Nat)) 1) where
 mem:=by simp
 obj:=fun i h st b hb=>by
  have e:b=it:=by simpa using hb
  subst e
  exact⟨_,st,fun v z=>by
   have z':Data.fields _=Data.cell v:=z
   cases z'⟩
 keep:=fun i h h' st k=>k it (by simp) _ st
 item:=by
  intro X hP hw hK hc i pins s σ H E I hf st hg
  subst hP hw hK
  obtain⟨f0,f1,f2,f3,f4,f5⟩:=hf it (by simp)
  have W:=Walks.range (prog:=X.prog) (w:=X.w) (I.ok.hd hc) it lo 1 n
  refine W.item i s _ _ hg st fun v h' tk hv st' kk=>?_
  obtain⟨t,rfl⟩:=hv
  have I1:Inv X pins σ H { s with heap:=h',toks:=tk }:=I.turned (fun b o hb e=>kk b o (by simpa using hb) e) f0 f1 f3 f4 f5
  refine⟨_,rfl,zPe (s:={ s with heap:=h',toks:=tk }) (n:="range_iterator") st' rfl rfl (by decide) ⟨.int (lo+i),H,I1,⟨t,?_⟩,⟨rfl,rfl⟩,st',fun b hb=>(hf b hb).1⟩⟩
  rw[Int.mul_one]
 done:=by
  intro X hP hw hK hc i pins s σ H E I hf st hg
  subst hP hw hK
  obtain⟨f0,f1,f2,f3,f4,f5⟩:=hf it (by simp)
  exact wpAny_pyNext_range_end (I.ok.hd hc) st (by have:n<=i:=hg;lia) fun h' eb=>⟨rfl,I.turned (t':=s.toks) (fun b o hb e=>eb b o hb e) f0 f1 f3 f4 f5⟩
 self:=fun _ _ _ _ _ st h=>wpAny_pyIter_rangeiter st h
end L2
namespace L2
open PySem PySem.Spec PyProof.Rows
section
variable {X:Cx}{tg:Expr}
theorem zNz {pins:List (Addr × Obj)}{σ:St}{H:Hp}{s:Shared}{R:It->Hp->Prop}{E:Value->Shared->Prop}{lo hi:Int}{t u v:Tok}{tk:Nat}(I:Inv X pins σ H s) (h1:-(2 ^ 62)<=lo) (h2:lo<2 ^ 62) (h3:-(2 ^ 62)<=hi) (h4:hi<2 ^ 62)
  (q:R (Itr lo (hi-lo).toNat) H):wpAny (model X.prog X.w) X.A (pyIter (.ref s.heap.objs.size)) (PIE X pins σ tg R) E { s with heap:=s.heap.push { cls:=.type "range",data:=.fields #[.int lo t,.int hi u,.int 1 v] },toks:=tk }:=by
 refine wpAny_pyIter_range (IsRange.new ..) (small_one h1 h2 h3 h4) ?_
 have I1:Inv X pins σ H { s with heap:=s.heap.push { cls:=.type "range",data:=.fields #[.int lo t,.int hi u,.int 1 v] },toks:=tk }:=I.kept fun b o e=>xi _ e
 refine⟨(s.heap.push { cls:=.type "range",data:=.fields #[.int lo t,.int hi u,.int 1 v] }).objs.size,[(s.heap.push { cls:=.type "range",data:=.fields #[.int lo t,.int hi u,.int 1 v] }).objs.size],_,_,H,rfl,
  I1.kept (t':=tk) fun b o e=>xi _ e,zIy _ lo (hi-lo).toNat,?_,fun b hb=>?_,q⟩
 ·have e1:lo+((0:Nat):Int)*1=lo:=by simp
  have e2:(((hi-lo).toNat:Nat):Int)-((0:Nat):Int)=Builtin.Range.rangeSize lo hi 1:=by rw[rangeSize_one];split <;> lia
  show IsRangeIter _ _ (lo+((0:Nat):Int)*1) ((((hi-lo).toNat:Nat):Int)-((0:Nat):Int)) 1
  rw[e1,e2]
  exact xw _ rfl
 ·have e:b=(s.heap.push { cls:=.type "range",data:=.fields #[.int lo t,.int hi u,.int 1 v] }).objs.size:=by simpa using hb
  subst e
  exact I1.fpOk (xh _) (I1.hok.fresh (xh _))
noncomputable def zTt (ta:TA):TI:=fun σ H R=>ta σ H fun vs H1=>∃j:Int,vs=[.int j]/\-(2 ^ 62)<=j/\j<2 ^ 62/\R (Itr 0 j.toNat) H1
theorem zKy {a:Expr}{ta:TA}{p pos:Pos}(hg:Gl X "range") (hm:X.mg "range"=none) (ha:PA X [a] ta) (hs:starEach [a] X.env=[(false,eval a X.env)]:=by rfl):PI X tg (.Call (.Name "range" p) [a] [] pos) (zTt ta):=by
 intro pins s σ H R I h
 refine Call_ (zC6 I hg hm boot_range (uu (thn (ha pos pins s σ H _ I h) fun us s1 hq1=>?_) hs rfl))
 obtain⟨vs,H1,I1,r1,q1⟩:=hq1
 obtain⟨j,e,q1,q2,q⟩:=q1
 subst e
 cases r1 with
 | cons r rr=>
  cases rr
  obtain⟨t,rfl⟩:=r
  exact call_range_1 (zNz I1 (by nofun) (by nofun) q1 q2 (by simpa using q))
noncomputable def tFor (wi:TI) (g:TG) (tb:TS):TS:=fun D σ H=>wi σ H fun J H1=>∃W:Nat->Nat->St->Hp->Prop,(∃m,W 0 m σ H1)/\∀i m σ H,W i m σ H->
 (J.stop i H/\D.nx σ H)\/(J.go i H/\∃N:St->Hp->Prop,(∀σ' H',N σ' H'->∃m',m'<m/\W (i+1) m' σ' H')/\∀x H',J.yld i H x H'->g x σ H' fun σ2 H2=>tb { D with nx:=N,ct:=N,bk:=D.nx } σ2 H2)
noncomputable def zFe (fp:List Addr) (h:Heap):List (Addr × Obj):=fp.filterMap fun b=>(h.get? b).map fun o=>(b,o)
theorem zBq {fp:List Addr}{h:Heap}{b:Addr}{o:Obj}(hb:b∈fp) (e:h.get? b=some o):(b,o)∈zFe fp h:=uv.mpr ⟨b,hb,by rw[e];rfl⟩
theorem zLe {fp:List Addr}{h:Heap}{p:Addr × Obj}(hp:p∈zFe fp h):p.1∈fp/\h.get? p.1=some p.2:=by
 obtain⟨b,hb,e⟩:=uv.mp hp
 cases q:h.get? b with
 | none=>rw[q]at e;cases e
 | some o=>
  rw[q]at e
  have e':(b,o)=p:=xD e
  subst e'
  exact⟨hb,q⟩
theorem Inv.pinned {pins:List (Addr × Obj)}{σ:St}{H:Hp}{s:Shared}{fp:List Addr}(I:Inv X pins σ H s) (hf:∀b∈fp,FpOk X pins H b) (ho:∀b∈fp,∃o,s.heap.get? b=some o/\∀v,o.data≠.cell v):Inv X (pins++zFe fp s.heap) σ H s:=
 I.pins_of fun p hp=>(vn.mp hp).elim (fun z=>I.pin p (xT _ z)) fun z=>by
  obtain⟨hb,e⟩:=zLe z
  obtain⟨f0,f1,f2,_⟩:=hf p.1 hb
  obtain⟨o,e',d⟩:=ho p.1 hb
  rw[e]at e';cases e'
  exact⟨e,f0,f1,f2,d⟩
theorem Inv.unpinned {pins pl:List (Addr × Obj)}{σ:St}{H:Hp}{s:Shared}(I:Inv X (pins++pl) σ H s):Inv X pins σ H s:=I.pins_of fun p hp=>I.pin p (xT _ (vQ _ hp))
theorem zWj {iter:Expr}{body:List Stmt}{wi:TI}{g:TG}{tb:TS}{pos:Pos}(hp:PassesOwn (model X.prog X.w) X.A X.env X.xe) (hc:X.calm=true) (hi:PI X tg iter wi) (hg:PG X tg g) (hb:PSs X body tb)
  (hs:∀x,foldedSetIterable iter X.env x=pure x:=by intro _;rfl):PS X (.For tg iter body [] pos) (tFor wi g tb):=by
 intro pins s σ H D I h
 refine wpAny_For (thn (hi pins s σ H _ I h) fun v s1 h1=>thn h1 fun itv s2 h2=>?_) hs
 obtain⟨it,fp,tn,J,H2,e,I2,T,st2,f2,W,⟨m0,w0⟩,turn⟩:=h2
 subst e
 -- what stays true of the iterator's objects through the loop
 have stat:∀{H':Hp},(∀b∈fp,H' b=none)->∀b∈fp,FpOk X pins H' b:=fun hn b hb=>⟨hn b hb,(f2 b hb).2⟩
 refine codeAny_forLoop_any (fun n s'=>∃i σ' H',Inv X pins σ' H' s'/\tn i s'.heap/\(∀b∈fp,H' b=none)/\W i n σ' H') ?_ m0 ⟨0,σ,H2,I2,st2,fun b hb=>(f2 b hb).1,w0⟩
 rintro n s3 ⟨i,σ3,H3,I3,st3,fr3,w3⟩
 rcases turn i n σ3 H3 w3 with⟨stop,qn⟩|⟨go,N,hN,step⟩
 ·refine ub hp (thn (T.done X rfl rfl rfl hc i pins s3 σ3 H3 X.xe I3 (stat fr3) st3 stop) fun r s4 hq1=>?_)
  obtain⟨hr,I4⟩:=hq1
  subst hr
  exact ur ⟨σ3,H3,I4,qn⟩
 ·refine ub hp (thn (T.item X rfl rfl rfl hc i pins s3 σ3 H3 X.xe I3 (stat fr3) st3 go) fun r s4 hq1=>?_)
  obtain⟨u,hr,h4⟩:=hq1
  subst hr
  refine ub hp (thn h4 fun _ s5 hq1=>?_)
  obtain⟨x,H5,I5,r5,y5,st5,fr5⟩:=hq1
  have I5':=I5.pinned (stat fr5) (T.obj _ _ st5)
  refine ub hp (thn (hg _ s5 σ3 H5 x u _ I5' r5 (step x H5 y5)) fun _ s6 hq1=>?_)
  obtain⟨σ6,H6,I6,q6⟩:=hq1
  refine ub hp (thn (hb _ s6 σ6 H6 _ I6 q6) fun f s7 q7=>?_)
  have again:∀{σ7:St}{H7:Hp},Inv X (pins++zFe fp s5.heap) σ7 H7 s7->N σ7 H7->∃m,m<n/\∃i σ' H',Inv X pins σ' H' s7/\tn i s7.heap/\(∀b∈fp,H' b=none)/\W i m σ' H':=fun {σ7 H7} I7 n7=>by
   obtain⟨m',hm,w7⟩:=hN σ7 H7 n7
   refine⟨m',hm,i+1,σ7,H7,I7.unpinned,T.keep _ _ _ st5 fun b hb o e=>(I7.pin (b,o) (xT _ (xT _ (zBq hb e)))).1,fun b hb=>?_,w7⟩
   obtain⟨o,e,d⟩:=T.obj _ _ st5 b hb
   exact(I7.pin (b,o) (xT _ (xT _ (zBq hb e)))).2.1
  cases f with
  | next=>obtain⟨σ7,H7,I7,n7⟩:=q7;exact again I7 n7
  | cont=>obtain⟨σ7,H7,I7,n7⟩:=q7;exact again I7 n7
  | brk=>obtain⟨σ7,H7,I7,q7⟩:=q7;exact⟨σ7,H7,I7.unpinned,q7⟩
  | ret v=>obtain⟨x7,σ7,H7,I7,r7,q7⟩:=q7;exact⟨x7,σ7,H7,I7.unpinned,r7,q7⟩
end
end L2
namespace L2
open PySem PySem.Spec PyProof.Rows
noncomputable abbrev R2:=V->V->Hp->VK->Prop
noncomputable def OpR (X:Cx) (f:Value->Value->Sem Value) (r:R2):Prop:=
 ∀(pins:List (Addr × Obj)) (s:Shared) (σ:St) (H:Hp) (x y:V) (v u:Value) (Q:VK),Inv X pins σ H s->RelV x v->RelV y u->r x y H Q->
  wpAny (model X.prog X.w) X.A (f v u) (EP X pins σ Q) X.xe s
noncomputable def UnR (X:Cx) (f:Value->Sem Value) (r:V->Hp->VK->Prop):Prop:=
 ∀(pins:List (Addr × Obj)) (s:Shared) (σ:St) (H:Hp) (x:V) (v:Value) (Q:VK),Inv X pins σ H s->RelV x v->r x H Q->
  wpAny (model X.prog X.w) X.A (f v) (EP X pins σ Q) X.xe s
noncomputable def zAu (X:Cx) (f:Value) (r:List V->Hp->VK->Prop):Prop:=
 ∀(pins:List (Addr × Obj)) (s:Shared) (σ:St) (H:Hp) (xs:List V) (us:List Value) (Q:VK),Inv X pins σ H s->Vals xs us->r xs H Q->
  wpAny (model X.prog X.w) X.A (call f us) (EP X pins σ Q) X.xe s
noncomputable def TruR (X:Cx) (r:V->Hp->(Bool->Hp->Prop)->Prop):Prop:=
 ∀(pins:List (Addr × Obj)) (s:Shared) (σ:St) (H:Hp) (x:V) (v:Value) (Q:Bool->Hp->Prop),Inv X pins σ H s->RelV x v->r x H Q->
  wpAny (model X.prog X.w) X.A (truthy v) (TP X pins σ Q) X.xe s
noncomputable def tOp (r:R2) (ta tb:TE):TE:=fun σ H Q=>ta σ H fun x H1=>tb σ H1 fun y H2=>r x y H2 Q
noncomputable def tUn (r:V->Hp->VK->Prop) (ta:TE):TE:=fun σ H Q=>ta σ H fun x H1=>r x H1 Q
noncomputable def rI (C:Int->Int->Prop) (g:Int->Int->V):R2:=fun x y H Q=>∃i j,x=.int i/\y=.int j/\C i j/\Q (g i j) H
noncomputable def rI0 (g:Int->Int->V):R2:=fun x y H Q=>∃i j,x=.int i/\y=.int j/\Q (g i j) H
noncomputable def rU (g:Int->V):V->Hp->VK->Prop:=fun x H Q=>∃i,x=.int i/\Q (g i) H
section
variable {X:Cx}{a b c:Expr}{ta tb tc:TE}{pos:Pos}
theorem binT (ha:PE X a ta) (hb:PE X b tb) {pins:List (Addr × Obj)}{s:Shared}{σ:St}{H:Hp}{R:V->V->Hp->Prop}(I:Inv X pins σ H s)
  (h:ta σ H fun x H1=>tb σ H1 fun y H2=>R x y H2) {Q:Value->Shared->Prop}{f:Value->Value->Sem Value}
  (hf:∀v u s2 x y H2,Inv X pins σ H2 s2->RelV x v->RelV y u->R x y H2->wpAny (model X.prog X.w) X.A (f v u) Q X.xe s2):
  wpAny (model X.prog X.w) X.A (eval a X.env) (fun v s₁=>wpAny (model X.prog X.w) X.A (eval b X.env) (fun u s₂=>wpAny (model X.prog X.w) X.A (f v u) Q X.xe s₂) X.xe s₁) X.xe s:=by
 refine thn (ha pins s σ H _ I h) fun v s1 hq1=>?_
 obtain⟨x,H1,I1,r1,q1⟩:=hq1
 refine thn (hb pins s1 σ H1 _ I1 q1) fun u s2 hq1=>?_
 obtain⟨y,H2,I2,r2,q2⟩:=hq1
 exact hf v u s2 x y H2 I2 r1 r2 q2
theorem yAa {op:Operator}{r:R2}(ho:OpR X (binaryOp op) r) (ha:PE X a ta) (hb:PE X b tb):PE X (.BinOp a op b pos) (tOp r ta tb):=by
 intro pins s σ H Q I h
 exact wpAny_BinOp (binT ha hb I h fun v u s2 x y H2 I2 rx ry q=>ho pins s2 σ H2 x y v u Q I2 rx ry q)
theorem yA8 {op:UnaryOp}{r:V->Hp->VK->Prop}(ho:UnR X (unaryOp op) r) (ha:PE X a ta):PE X (.UnaryOp op a pos) (tUn r ta):=by
 intro pins s σ H Q I h
 exact UnaryOp_ (thn (ha pins s σ H _ I h) fun v s1 hz5=>by obtain⟨x,H1,I1,r1,q1⟩:=hz5;exact ho pins s1 σ H1 x v Q I1 r1 q1)
theorem opI {f:Value->Value->Sem Value}{C:Int->Int->Prop}{g:Int->Int->Int}
  (rule:∀(i j:Int) (t u:Tok) (s:Shared) (Q:Value->Shared->Prop) (E:Value->Shared->Prop),C i j->Q (.int (g i j) s.toks) { s with toks:=s.toks+1 }->wpAny (model X.prog X.w) X.A (f (.int i t) (.int j u)) Q E s):
  OpR X f (rI C fun i j=>.int (g i j)):=by
 intro pins s σ H x y v u Q I rx ry h
 obtain⟨i,j,rfl,rfl,hc,q⟩:=h
 obtain⟨t,rfl⟩:=rx
 obtain⟨t',rfl⟩:=ry
 exact rule i j t t' s _ _ hc ⟨.int (g i j),H,I.tok _,⟨_,rfl⟩,q⟩
theorem opI0 {f:Value->Value->Sem Value}{g:Int->Int->Int}
  (rule:∀(i j:Int) (t u:Tok) (s:Shared) (Q:Value->Shared->Prop) (E:Value->Shared->Prop),Q (.int (g i j) s.toks) { s with toks:=s.toks+1 }->wpAny (model X.prog X.w) X.A (f (.int i t) (.int j u)) Q E s):
  OpR X f (rI0 fun i j=>.int (g i j)):=by
 intro pins s σ H x y v u Q I rx ry h
 obtain⟨i,j,rfl,rfl,q⟩:=h
 obtain⟨t,rfl⟩:=rx
 obtain⟨t',rfl⟩:=ry
 exact rule i j t t' s _ _ ⟨.int (g i j),H,I.tok _,⟨_,rfl⟩,q⟩
theorem opB0 {f:Value->Value->Sem Value}{g:Int->Int->Bool}
  (rule:∀(i j:Int) (t u:Tok) (s:Shared) (Q:Value->Shared->Prop) (E:Value->Shared->Prop),Q (.bool (g i j)) s->wpAny (model X.prog X.w) X.A (f (.int i t) (.int j u)) Q E s):
  OpR X f (rI0 fun i j=>.bl (g i j)):=by
 intro pins s σ H x y v u Q I rx ry h
 obtain⟨i,j,rfl,rfl,q⟩:=h
 obtain⟨t,rfl⟩:=rx
 obtain⟨t',rfl⟩:=ry
 exact rule i j t t' s _ _ ⟨.bl (g i j),H,I,rfl,q⟩
noncomputable def CPow (i j:Int):Prop:=0<=j/\j<=1000000/\i.natAbs<2 ^ 64
theorem zXf:OpR X (binaryOp .Add) (rI0 fun i j=>.int (i+j)):=opI0 fun _ _ _ _ _ _ _ q=>add_int q
theorem zX6:OpR X (binaryOp .Sub) (rI0 fun i j=>.int (i-j)):=opI0 fun _ _ _ _ _ _ _ q=>sub_int q
theorem zX9:OpR X (binaryOp .Mod) (rI (fun _ j=>0<j) fun i j=>.int (i % j)):=opI fun i j _ _ _ _ _ hc q=>by
 have h1:(0:Int)<j:=hc
 exact mod_int' (by nofun) (by rw[Int.fmod_eq_emod_of_nonneg i (by nofun)];exact q)
theorem zX7:OpR X (binaryOp .Pow) (rI CPow fun i j=>.int (i ^ j.toNat)):=opI fun _ _ _ _ _ _ _ hc q=>pow_int_small hc.1 hc.2.1 hc.2.2 q
theorem unI {f:Value->Sem Value}{g:Int->Int}
  (rule:∀(i:Int) (t:Tok) (s:Shared) (Q:Value->Shared->Prop) (E:Value->Shared->Prop),Q (.int (g i) s.toks) { s with toks:=s.toks+1 }->wpAny (model X.prog X.w) X.A (f (.int i t)) Q E s):
  UnR X f (rU fun i=>.int (g i)):=by
 intro pins s σ H x v Q I rx h
 obtain⟨i,rfl,q⟩:=h
 obtain⟨t,rfl⟩:=rx
 exact rule i t s _ _ ⟨.int (g i),H,I.tok _,⟨_,rfl⟩,q⟩
theorem zVi:UnR X (unaryOp .USub) (rU fun i=>.int (-i)):=unI fun _ _ _ _ _ q=>neg_int q
end
section
variable {X:Cx}{a b c:Expr}{ta tb tc:TE}{pos:Pos}
theorem zR0 {pins:List (Addr × Obj)}{σ:St}{H:Hp}{s:Shared}{Q:VK}{k k':Bool}(I:Inv X pins σ H s) (q:Q (.bl k) H) (e:k=k'):EP X pins σ Q (.bool k') s:=by
 subst e
 exact⟨.bl k,H,I,rfl,q⟩
theorem yAf:OpR X (compareOp .Lt) (rI0 fun i j=>.bl (decide (i<j))):=opB0 fun _ _ _ _ _ _ _ q=>lt_int q
theorem yAg:OpR X (compareOp .LtE) (rI0 fun i j=>.bl (decide (i<=j))):=opB0 fun _ _ _ _ _ _ _ q=>le_int q
theorem yAh:OpR X (compareOp .Gt) (rI0 fun i j=>.bl (decide (j<i))):=opB0 fun _ _ _ _ _ _ _ q=>gt_int q
theorem yAi:OpR X (compareOp .GtE) (rI0 fun i j=>.bl (decide (j<=i))):=opB0 fun _ _ _ _ _ _ _ q=>ge_int q
theorem zLb:OpR X (compareOp .Lt) (fun x y H Q=>∃i j,x=.str i/\y=.str j/\Q (.bl (decide (i.cps.toList<j.cps.toList))) H):=by
 intro pins s σ H x y v u Q I rx ry h
 obtain⟨i,j,rfl,rfl,q⟩:=h
 obtain⟨t,rfl⟩:=rx
 obtain⟨t',rfl⟩:=ry
 exact lt_str (zR0 I q rfl)
theorem zFg:OpR X (compareOp .NotIn) (fun x y H Q=>∃i j,x=.str i/\y=.str j/\Q (.bl (!(!(Builtin.Str.occurrences j i 0 j.length 1).isEmpty))) H):=by
 intro pins s σ H x y v u Q I rx ry h
 obtain⟨i,j,rfl,rfl,q⟩:=h
 obtain⟨t,rfl⟩:=rx
 obtain⟨t',rfl⟩:=ry
 exact notIn_str (zR0 I q rfl)
theorem nomark (b:Expr) {op:CmpOp}(h:op≠.In:=by decide) (h2:op≠.NotIn:=by decide):behindInMarks op b=false:=by
 have e1:(op == CmpOp.In)=false:=by cases op <;> first|rfl|exact absurd rfl h
 have e2:(op == CmpOp.NotIn)=false:=by cases op <;> first|rfl|exact absurd rfl h2
 cases b <;> simp[behindInMarks,e1,e2]
theorem zSu {op:CmpOp}{r:R2}(ho:OpR X (compareOp op) r) (ha:PE X a ta) (hb:PE X b tb) (hm:behindInMarks op b=false):PE X (.Compare a [op] [b] pos) (tOp r ta tb):=by
 intro pins s σ H Q I h
 exact wpAny_Compare1 (binT ha hb I h fun v u s2 x y H2 I2 rx ry q=>ho pins s2 σ H2 x y v u Q I2 rx ry q) hm
noncomputable def zNj (t:TE):TT:=fun σ H Q=>t σ H fun x H'=>∃k,x=.bl k/\Q k H'
theorem zSc {op:CmpOp}{r:R2}(ho:OpR X (compareOp op) r) (ha:PE X a ta) (hb:PE X b tb) (hm:behindInMarks op b=false):PT X (.Compare a [op] [b] pos) (zNj (tOp r ta tb)):=by
 intro pins s σ H Q I h
 refine wpAny_isTrue_Compare1 (thn (ha pins s σ H _ I h) fun v s1 ⟨x,H1,I1,r1,q1⟩=>thn (hb pins s1 σ H1 _ I1 q1) fun u s2 ⟨y,H2,I2,r2,q2⟩=>
  thn (ho pins s2 σ H2 x y v u _ I2 r1 r2 q2) fun c s3 ⟨z,H3,I3,r3,k,e,q3⟩=>?_) hm
 subst e
 cases r3
 exact ve ⟨H3,I3,q3⟩
noncomputable def zF9 (r r':R2) (ta tb tc:TE):TE:=fun σ H Q=>ta σ H fun x H1=>tb σ H1 fun y H2=>r x y H2 fun z H3=>∃k,z=.bl k /\
 (if k=true then tc σ H3 fun w' H4=>r' y w' H4 Q else Q (.bl false) H3)
theorem zOn {op op':CmpOp}{r r':R2}(ho:OpR X (compareOp op) r) (ho':OpR X (compareOp op') r') (ha:PE X a ta) (hb:PE X b tb) (hc:PE X c tc)
  (hm:lastMarks [op,op'] [b,c]=false:=by with_unfolding_all rfl):PE X (.Compare a [op,op'] [b,c] pos) (zF9 r r' ta tb tc):=by
 intro pins s σ H Q I h
 refine Compare_chain (thn (ha pins s σ H _ I h) fun v s1 ⟨x,H1,I1,r1,q1⟩=>chain_link (thn (hb pins s1 σ H1 _ I1 q1) fun u s2 ⟨y,H2,I2,r2,q2⟩=>
  thn (ho pins s2 σ H2 x y v u _ I2 r1 r2 q2) fun d s3 ⟨z,H3,I3,r3,k,e,q3⟩=>?_)) hm
 subst e
 cases r3
 refine ve ?_
 cases k with
 | false=>exact ite_ff ⟨.bl false,H3,I3,rfl,q3⟩
 | true=>exact ite_tt (chain_last (thn (hc pins s3 σ H3 _ I3 q3) fun w' s4 hz6=>by obtain⟨z',H4,I4,r4,q4⟩:=hz6;exact ho' pins s4 σ H4 y z' u w' Q I4 r2 r4 q4))
theorem zO5 {op op':CmpOp}{r r':R2}(ho:OpR X (compareOp op) r) (ho':OpR X (compareOp op') r') (ha:PE X a ta) (hb:PE X b tb) (hc:PE X c tc)
  (hm:lastMarks [op,op'] [b,c]=false:=by with_unfolding_all rfl):PT X (.Compare a [op,op'] [b,c] pos) (zNj (zF9 r r' ta tb tc)):=by
 intro pins s σ H Q I h
 refine isTrue_chain (thn (ha pins s σ H _ I h) fun v s1 ⟨x,H1,I1,r1,q1⟩=>test_link (thn (hb pins s1 σ H1 _ I1 q1) fun u s2 ⟨y,H2,I2,r2,q2⟩=>
  thn (ho pins s2 σ H2 x y v u _ I2 r1 r2 q2) fun d s3 ⟨z,H3,I3,r3,k,e,q3⟩=>?_)) hm
 subst e
 cases r3
 refine ve ?_
 cases k with
 | false=>
  obtain⟨k',e',q'⟩:=q3
  cases e'
  exact ite_ff ⟨H3,I3,q'⟩
 | true=>
  refine ite_tt (test_last (thn (hc pins s3 σ H3 _ I3 q3) fun w' s4 ⟨z',H4,I4,r4,q4⟩=>thn (ho' pins s4 σ H4 y z' u w' _ I4 r2 r4 q4) fun d' s5 hq1=>?_))
  obtain⟨z2,H5,I5,r5,k2,e2,q5⟩:=hq1
  subst e2
  cases r5
  exact ve ⟨H5,I5,q5⟩
noncomputable def TruV (K:PySem.W.Frag) (x:V) (H:Hp) (k:Bool):Prop:=
 match x with
 | .non=>k=false
 | .bl b=>k=b
 | .int i=>k=(i != 0)
 | .str y=>y.length<=sizeLine/\k=((y.length:Int) != 0)
 | .byt y=>y.size<=sizeLine/\k=((y.size:Int) != 0)
 | .ref p=>(∃xs,SqL K H p xs/\k=!xs.isEmpty)\/(∃xs,SqT K H p xs/\k=!xs.isEmpty)\/∃kvs,H p=some (.dK kvs)/\k=!kvs.isEmpty
 | _=>False
theorem zJd {κ:Type}{kvs:List (κ × V)}{vs:List (κ × Value)}(r:KV kvs vs):(!vs.isEmpty)=!kvs.isEmpty:=by
 cases r <;> rfl
theorem zDt {xs:List V}{its:List Value}(r:Vals xs its):(!its.toArray.isEmpty)=!xs.isEmpty:=by
 cases r <;> simp
theorem line63:(sizeLine:Nat)<2 ^ 63:=by rw[xZ];decide
theorem zVm:TruR X (fun x H Q=>∃k,TruV X.K x H k/\Q k H):=by
 intro pins s σ H x v Q I rx h
 obtain⟨k,e,q⟩:=h
 have hl:=line63
 have hs:sizeLine=16777216:=xZ
 cases x with
 | non=>
  cases rx
  have e':k=false:=e
  subst e'
  exact truthy_none ⟨H,I,q⟩
 | bl b=>
  cases rx
  have e':k=b:=e
  subst e'
  exact ve ⟨H,I,q⟩
 | int i=>
  obtain⟨t,rfl⟩:=rx
  have e':k=(i != 0):=e
  subst e'
  exact PySem.P.truthy_int ⟨H,I,q⟩
 | str y=>
  obtain⟨t,rfl⟩:=rx
  obtain⟨hy,e'⟩:y.length<=sizeLine/\k=((y.length:Int) != 0):=e
  subst e'
  exact PySem.P.truthy_str (by nofun) ⟨H,I.tok _,q⟩
 | byt y=>
  obtain⟨t,rfl⟩:=rx
  obtain⟨hy,e'⟩:y.size<=sizeLine/\k=((y.size:Int) != 0):=e
  subst e'
  exact PySem.W.truthy_bytes (by nofun) ⟨H,I.tok _,q⟩
 | ref p=>
  cases rx
  have e':(∃xs,SqL X.K H p xs/\k=!xs.isEmpty)\/(∃xs,SqT X.K H p xs/\k=!xs.isEmpty)\/∃kvs,H p=some (.dK kvs)/\k=!kvs.isEmpty:=e
  rcases e' with⟨xs,hx,e'⟩|⟨xs,hx,e'⟩|⟨kvs,hx,e'⟩
  ·subst e'
   obtain⟨its,r,pl,hz⟩:=I.list hx
   have hlen:=r.length
   exact wpAny_truthy_list pl.isList (by simp only[xu];lia) ⟨H,I.tok _,by rw[zDt r];exact q⟩
  ·subst e'
   obtain⟨its,r,pl,hz⟩:=I.tuple hx
   have hlen:=r.length
   exact truthy_tuple pl (by simp only[xu];lia) ⟨H,I.tok _,by rw[zDt r];exact q⟩
  ·subst e'
   obtain⟨hz,hS,vs,r,m⟩:kvs.length<=sizeLine/\(p == sysModules)=false/\∃vs,KV kvs vs/\s.heap.DictOf (zAp X.prog X.w) p vs:=I.hok p _ hx
   have hlen:kvs.length=vs.length:=Paired.length r
   exact wpAny_truthy_dict hS m (by nofun) ⟨H,I.tok _,by rw[zJd r];exact q⟩
 | _=>exact(show False from e).elim
theorem zO3 (ha:PE X a ta) (he:∀whole,isTrue a X.env whole=(do let v <- whole;standAt a.pos;holding [v] (truthy v))):
  PT X a (fun σ H Q=>ta σ H fun x H'=>∃k,TruV X.K x H' k/\Q k H'):=by
 intro pins s σ H Q I h
 exact isTrue_plain (thn (ha pins s σ H _ I h) fun v s1 hz7=>by obtain⟨x,H1,I1,r1,q1⟩:=hz7;exact zVm pins s1 σ H1 x v Q I1 r1 q1) (he _)
theorem zJ6:OpR X (binaryOp .Add) (fun x y H Q=>∃i j,x=.str i/\y=.str j/\i.length+j.length<=sizeLine/\Q (.str (i++j)) H):=by
 intro pins s σ H x y v u Q I rx ry h
 obtain⟨i,j,rfl,rfl,hz,q⟩:=h
 obtain⟨t,rfl⟩:=rx
 obtain⟨t',rfl⟩:=ry
 exact add_str (fun t' tk=>⟨.str (i++j),H,I.tok _,⟨_,rfl⟩,q⟩) hz
theorem vals1 {x:V}{us:List Value}(r:Vals [x] us):∃u,us=[u]/\RelV x u:=by
 cases r with
 | cons r1 r2=>cases r2;exact⟨_,rfl,r1⟩
theorem vals2 {x y:V}{us:List Value}(r:Vals [x,y] us):∃u w',us=[u,w']/\RelV x u/\RelV y w':=by
 cases r with
 | cons r1 r2=>
  cases r2 with
  | cons r3 r4=>cases r4;exact⟨_,_,rfl,r1,r3⟩
theorem zN3 (hc:X.calm=true):zAu X (.builtin "max") (fun xs H Q=>∃i j,xs=[.int i,.int j]/\Q (.int (if j > i then j else i)) H):=by
 intro pins s σ H xs us Q I r h
 obtain⟨i,j,rfl,q⟩:=h
 obtain⟨u,w',rfl,⟨t,rfl⟩,⟨t',rfl⟩⟩:=vals2 r
 refine max_two_ints (I.ok.hd hc) fun h' tk k=>⟨_,H,I.kept k,?_,q⟩
 by_cases hj:j > i
 ·rw[xc hj,xc hj];exact⟨_,rfl⟩
 ·rw[xf hj,xf hj];exact⟨_,rfl⟩
theorem zFz:zAu X (.type "int") (fun xs H Q=>(∃i,xs=[.int i]/\Q (.int i) H)\/∃k,xs=[.bl k]/\Q (.int (if k then 1 else 0)) H):=by
 intro pins s σ H xs us Q I r h
 rcases h with⟨i,rfl,q⟩|⟨k,rfl,q⟩
 ·obtain⟨u,rfl,t,rfl⟩:=vals1 r
  exact call_int_int ⟨.int i,H,I,⟨_,rfl⟩,q⟩
 ·obtain⟨u,rfl,r1⟩:=vals1 r
  cases r1
  exact call_int_bool ⟨.int (if k then 1 else 0),H,I.tok _,⟨_,rfl⟩,q⟩
theorem zFw:zAu X (.type "str") (fun xs H Q=>∃i,xs=[.int i]/\i.natAbs.log2<1920/\Q (.str (toString i)) H):=by
 intro pins s σ H xs us Q I r h
 obtain⟨i,rfl,hz,q⟩:=h
 obtain⟨u,rfl,t,rfl⟩:=vals1 r
 exact PySem.P.str_of_int hz ⟨.str _,H,I.tok _,⟨_,rfl⟩,q⟩
end
end L2
namespace L2
open PySem PySem.Spec PyProof.Rows
theorem zFj {h:Heap}{dx:Addr}{mA:Str->Option Value}(n:h.Ns1 dx mA):∃od,h.get? dx=some od/\∀name,PySem.W.lookIn name od=some (mA name):=by
 obtain⟨o,es,ep,ho,hd,hk,_,hm⟩:=n
 refine⟨o,ho,fun name=>?_⟩
 have e:=hm name
 unfold nsFind findBy at e
 rw[<- Array.find?_toList]at e
 unfold PySem.W.lookIn
 rw[hd]
 dsimp only
 split
 ·rename_i y q
  rw[q]at e
  exact congrArg some e
 ·rename_i q
  rw[q]at e
  have a:es.toList.any (·.refKey)=false:=by
   rw[List.any_eq_false]
   intro y hy
   obtain⟨z,t,hkey⟩:=hk y (uY.mp hy)
   simp[DictEntry.refKey,hkey]
  have a':¬ es.toList.any (·.refKey)=true:=by rw[a];exact uF
  rw[xf a']
  exact congrArg some e
theorem RelO.some_of {v:V}{o:Option Value}(r:RelO (some v) o):∃u,o=some u/\RelV v u:=by
 cases o with
 | none=>exact(show False from r).elim
 | some u=>exact⟨u,rfl,r⟩
theorem zM4 {v:V}{u:Value}(r:RelV v u):PySem.W.handedIn u=true:=by
 cases v with
 | non=>cases(show u=Value.none from r);rfl
 | bl b=>cases(show u=Value.bool b from r);rfl
 | int i=>obtain⟨t,e⟩:=(show ∃t,u=Value.int i t from r);cases e;rfl
 | str x=>obtain⟨t,e⟩:=(show ∃t,u=Value.str x t from r);cases e;rfl
 | byt b=>obtain⟨t,e⟩:=(show ∃t,u=Value.bytes b t from r);cases e;rfl
 | flt b=>obtain⟨t,e⟩:=(show ∃t,u=Value.float b t from r);cases e;rfl
 | ref a=>cases(show u=Value.ref a from r);rfl
 | ty n=>cases(show u=Value.type n from r);rfl
noncomputable def NoAttr (K:PySem.W.Frag) (C:Addr) (f:Str):Prop:=PySem.W.findIn K (.ref C) f=some none
theorem NoAttr.taker {K:PySem.W.Frag}{C:Addr}{f:Str}(n:NoAttr K C f):PySem.W.takerIn K C f=some none:=by
 unfold PySem.W.takerIn
 rw[show PySem.W.findIn K (.ref C) f=some none from n]
 rfl
section
variable {X:Cx}{pins:List (Addr × Obj)}{σ:St}{H:Hp}{s:Shared}{a C dx:Addr}{fs:List (Str × V)}{f:Str}{v:V}{A:Around}{E:Value->Shared->Prop}
theorem zV3 {prog:Program}{w:World}{env:Env}{e:Expr}{f:Str}{pos:Pos}{s:Shared}{Q:Value->Shared->Prop}(hb:attributeBase e f env (eval e env)=eval e env)
  (h:wpAny (model prog w) A (eval e env) (fun o s₁=>wpAny (model prog w) A (getAttr o f true) Q E s₁) E s):wpAny (model prog w) A (eval (.Attribute e f pos) env) Q E s:=
 Attribute_any_ h (by rw[arm_eval_Attribute,hb])
end
end L2
namespace L2
open PySem PySem.Spec PyProof.Rows
structure Room (k:Nat) (A:Around):Prop where
 hd:A.handled=none
 dp:A.depth+3*k+5<recursionLimit
 un:A.units+16*k+200<cLine
theorem Room.mono {j k:Nat}{A:Around}(r:Room k A) (h:j<=k):Room j A:=⟨r.hd,by have:=r.dp;lia,by have:=r.un;lia⟩
theorem Room.deeper {k:Nat}{A:Around}(r:Room (k+1) A) (env:Env):Room k (A.deeper env):=
 ⟨r.hd,by have:=r.dp;show A.depth+1+3*k+5<_;lia,by have:=r.un;show A.units+3+16*k+200<_;lia⟩
theorem zJ9 {A:Around}{C:Addr}{us:List Value}{kw:List (Str × Value)}:(A.under (.builtin "type.__call__" ⟨.ref C::us,kw⟩)).depth=A.depth+1:=by
 first|rfl|simp[Around.under,Code.weight,Code.isCreation,Code.isGuard,Code.isCaller,Code.frames,Code.isFrame,guardIds]
theorem zJ8 {A:Around}{C:Addr}{us:List Value}{kw:List (Str × Value)}:(A.under (.builtin "type.__call__" ⟨.ref C::us,kw⟩)).units=A.units+1:=by
 first|rfl|simp[Around.under,Code.cUnits,Code.frames,Code.isFrame]
theorem Room.make {k:Nat}{A:Around}(r:Room (k+1) A) (C:Addr) (us:List Value) (kw:List (Str × Value)):Room k (A.under (.builtin "type.__call__" ⟨.ref C::us,kw⟩)):=
 ⟨r.hd,by have:=r.dp;rw[zJ9];lia,by have:=r.un;rw[zJ8];lia⟩
theorem Room.depth {k:Nat}{A:Around}(r:Room k A):A.depth<recursionLimit:=by have:=r.dp;lia
theorem Room.units {k:Nat}{A:Around}(r:Room k A):A.units+64<cLine:=by have:=r.un;lia
theorem Room.units0 {k:Nat}{A:Around}(r:Room k A):A.units<cLine:=by have:=r.un;lia
noncomputable def tNil:TA:=fun _ H Q=>Q [] H
noncomputable def zRo (ta:TE) (tr:TA):TA:=fun σ H Q=>ta σ H fun x H1=>tr σ H1 fun xs H2=>Q (x::xs) H2
section
variable {X:Cx}{e:Expr}{es:List Expr}{te:TE}{t:TA}{pos:Pos}
theorem zX4:PA X [] tNil:=fun _ _ _ _ H Q I h=>uw ⟨[],H,I,.nil,h⟩
theorem zSy (ha:PE X e te) (hr:PA X es t) (hs:starEach (e::es) X.env=(false,eval e X.env)::starEach es X.env:=by rfl):PA X (e::es) (zRo te t):=by
 intro pos pins s σ H Q I h
 rw[hs]
 show wpAny _ _ (spliced ((false,eval e X.env)::backTo pos (starEach es X.env))) _ _ s
 refine uc (thn (ha pins s σ H _ I h) fun u s1 hq1=>?_)
 obtain⟨x,H1,I1,r1,q1⟩:=hq1
 exact thn (hr pos pins s1 σ H1 _ I1 q1) fun us s2 hz8=>by obtain⟨xs,H2,I2,r2,q2⟩:=hz8;exact ⟨x::xs,H2,I2,.cons r1 r2,q2⟩
noncomputable def tTup (t:TA):TE:=fun σ H Q=>t σ H fun xs H1=>xs.length<=sizeLine/\∀p,H1 p=none->Q (.ref p) (upd H1 p (.tup xs))
noncomputable def tLst (t:TA):TE:=fun σ H Q=>t σ H fun xs H1=>xs.length<=sizeLine/\∀p,H1 p=none->Q (.ref p) (upd H1 p (.lst xs))
theorem zWq {x1} (h:PA X es t):PE X (.Tuple es x1 pos) (tTup t):=by
 intro pins s σ H Q I hq
 refine wpAny_Tuple_spliced (thn (h pos pins s σ H _ I hq) fun us s1 ⟨xs,H1,I1,r,z,q⟩=>⟨by rw[<- r.length];exact z,?_⟩)
 have hf:H1 s1.heap.objs.size=none:=I1.hok.fresh (xh _)
 refine⟨.ref s1.heap.objs.size,upd H1 s1.heap.objs.size (.tup xs),I1.laid (t':=s1.toks) (fun b u e=>xi _ e) (xh _) ?_,rfl,q _ hf⟩
 exact⟨z,us,r,⟨_,xw _ rfl,rfl,_,rfl⟩⟩
theorem zWw (h:PA X es t):PE X (.List es pos) (tLst t):=by
 intro pins s σ H Q I hq
 refine wpAny_List_spliced (thn (h pos pins s σ H _ I hq) fun us s1 ⟨xs,H1,I1,r,z,q⟩=>⟨by rw[<- r.length];exact z,?_⟩)
 have hf:H1 s1.heap.objs.size=none:=I1.hok.fresh (xh _)
 refine⟨.ref s1.heap.objs.size,upd H1 s1.heap.objs.size (.lst xs),I1.laid (t':=s1.toks) (fun b u e=>xi _ e) (xh _) ?_,rfl,q _ hf⟩
 exact⟨z,us,0,r,xw _ rfl⟩
end
noncomputable abbrev Sp:=List V->Hp->VK->XK->Prop
noncomputable abbrev CXT:=List Env->Hp->Shared->XK->Value->Shared->Prop
structure Env0 (P:Program) (w:World) (K:PySem.W.Frag) (mg:Str->Option Value) (base:Heap) (A:Around) (outer:List Env) (s:Shared) (H:Hp):Prop where
 frames:A.frames=some outer
 mod:Mod K mg base
 bs:∀b o,base.get? b=some o->s.heap.get? b=some o/\H b=none
 bsz:base.objs.size<=s.heap.objs.size
 funs:s.heap.FunFrames base outer
 frf:∀b∈frs outer,H b=none
 hok:HOk P w H s.heap
 bare:AllBare s.gens
 gds:A.guards=some []
noncomputable def CE (outer:List Env) (P:Program) (w:World) (H:Hp) (s:Shared) (Q:VK) (u:Value) (s':Shared):Prop:=
 ∃v H',s'.os=s.os/\AllBare s'.gens/\Un (frs outer) [] H H' s.heap s'.heap/\HOk P w H' s'.heap/\RelV v u/\Q v H'
noncomputable def CR (CX:CXT) (outer:List Env) (P:Program) (w:World) (H:Hp) (s:Shared) (Q:VK) (E:XK) (r:Result) (s':Shared):Prop:=
 match r with
 | .ok (.ret u)=>CE outer P w H s Q u s'
 | .ok _=>False
 | .error e=>CX outer H s E e s'
structure FnOk (P:Program) (w:World) (K:PySem.W.Frag) (mg:Str->Option Value) (base:Heap) (CX:CXT) (k:Nat) (f:Addr) (fd:FuncData) (ps:List Str) (sp:Sp):Prop where
 len:∀vs H Q E,sp vs H Q E->vs.length=ps.length
 run:∀(A:Around) (outer:List Env) (s:Shared) (H:Hp) (args:Args) (us:List Value) (vs:List V) (Q:VK) (E:XK),Room k A->Env0 P w K mg base A outer s H->BindsTo s fd args (ps.zip us)->Vals vs us->sp vs H Q E->
  codeAny (model P w) A (.call (.ref f) args) (CR CX outer P w H s Q E) s
theorem Env0.make {P:Program}{w:World}{K:PySem.W.Frag}{mg:Str->Option Value}{base:Heap}{A:Around}{outer:List Env}{s:Shared}{H:Hp}(e:Env0 P w K mg base A outer s H) (C:Addr) (us:List Value) (kw:List (Str × Value)):
  Env0 P w K mg base (A.under (.builtin "type.__call__" ⟨.ref C::us,kw⟩)) outer s H:=⟨by first|exact e.frames|(simpa[Around.under,Code.envs,Code.isFrame,pushEnvs]using e.frames),e.mod,e.bs,e.bsz,e.funs,e.frf,e.hok,e.bare,by first|exact e.gds|(simp[Around.under,Code.guards,Code.isGuard,guardIds,pushGuards,e.gds])⟩
section
variable {X:Cx}{pins:List (Addr × Obj)}{σ:St}{H:Hp}{s s':Shared}
theorem Inv.env0 (I:Inv X pins σ H s):Env0 X.prog X.w X.K X.mg X.base X.A X.stack s H:=
 ⟨I.ok.frames,I.ok.mod,I.bs,xp I.ok.bsz I.sz,I.stack,I.stkFree,I.hok,I.bare,I.ok.gds⟩
theorem Inv.after {Q:VK}{u:Value}(I:Inv X pins σ H s) (h:CE X.stack X.prog X.w H s Q u s'):EP X pins σ Q u s':=by
 obtain⟨v,H',os,bare,un,hok,r,q⟩:=h
 obtain⟨hh,g,d,t,os'⟩:=s'
 obtain rfl:os'=s.os:=os
 exact⟨v,H',I.call (h':=hh) (g':=g) (d':=d) (t':=t) (ch:=[]) un hok bare (fun b z=>absurd z (by simp)),r,q⟩
end
noncomputable def zNk (sp:Sp) (dvs:List V) (E:XK) (t:TA):TE:=fun σ H Q=>t σ H fun vs H1=>sp (vs++dvs) H1 Q E
noncomputable def Binds (K:PySem.W.Frag) (fd:FuncData) (ps:List Str) (ds:List Value):Prop:=
 ∀(s:Shared) (us:List Value),K.In s.heap->(us++ds).length=ps.length->BindsTo s fd ⟨us,[]⟩ (ps.zip (us++ds))
theorem Binds.all {K:PySem.W.Frag}{fd:FuncData}{ps:List Str}(h:∀us:List Value,us.length=ps.length->bindArgs fd ⟨us,[]⟩=pure (ps.zip us)):Binds K fd ps []:=fun s us _ hl=>by
 rw[vh]at hl ⊢
 exact .of_eq (h us hl)
noncomputable def Passes (CX:CXT) (X:Cx) (E:XK):Prop:=∀(pins:List (Addr × Obj)) (σ:St) (H:Hp) (s:Shared) (e:Value) (s':Shared),Inv X pins σ H s->CX X.stack H s E e s'->X.xe e s'
section
variable {X:Cx}{CX:CXT}{k:Nat}{f C:Addr}{fd:FuncData}{ps:List Str}{sp:Sp}{dvs:List V}{ds:List Value}{E:XK}{x m:Str}{p pos apos:Pos}{e o:Expr}{es:List Expr}{ta:TE}{t:TA}
theorem zVy {pins:List (Addr × Obj)}{σ:St}{H:Hp}{s:Shared}{Q:VK}{us:List Value}{vs:List V}(F:FnOk X.prog X.w X.K X.mg X.base CX k f fd ps sp) (hr:Room k X.A) (hb:Binds X.K fd ps ds) (hd:Vals dvs ds) (hx:Passes CX X E)
  (I:Inv X pins σ H s) (r:Vals vs us) (h:sp (vs++dvs) H Q E):wpAny (model X.prog X.w) X.A (call (.ref f) us) (EP X pins σ Q) X.xe s:=by
 have r2:Vals (vs++dvs) (us++ds):=r.append hd
 have hl:(us++ds).length=ps.length:=by rw[<- r2.length];exact F.len _ _ _ _ h
 refine wpAny_call (vR (F.run X.A X.stack s H ⟨us,[]⟩ (us++ds) (vs++dvs) Q E hr I.env0 (hb s us I.kIn hl) r2 h) fun r s' hq=>?_)
 cases r with
 | error e=>exact hx pins σ H s e s' I hq
 | ok fl=>
  cases fl with
  | ret u=>exact I.after hq
  | next=>exact False.elim hq
  | brk=>exact False.elim hq
  | cont=>exact False.elim hq
theorem zSv (F:FnOk X.prog X.w X.K X.mg X.base CX k f fd ps sp) (hr:Room k X.A) (hg:Gl X x) (hm:X.mg x=some (.ref f)) (hk:PySem.W.keepIn X.K (.ref f)=true) (hb:Binds X.K fd ps ds) (hd:Vals dvs ds) (hx:Passes CX X E)
  (ha:PA X (e::es) t) (hdb:(x == ("__debug__":Str))=false:=by decide) (he:starEach (e::es) X.env=(false,eval e X.env)::starEach es X.env:=by rfl) (hpl:(backTo pos (starEach es X.env)).any (·.1)=false:=by rfl):
  PE X (.Call (.Name x p) (e::es) [] pos) (zNk sp dvs E t):=by
 intro pins s σ H Q I h
 refine vE (zD3 I hg hm ?_ hdb)
 refine PySem.W.callWith_K (h₀:=X.base) I.ok.mod.kin hk (thn (ha pos pins s σ H _ I h) fun us s1 ⟨vs,H1,I1,r,q⟩=>⟨I1.kIn,?_⟩) he hpl
 exact zVy F hr hb hd hx I1 r q
end
structure zBl (N P:List Str) (sc:Scope):Prop where
 kind:sc.kind=.function
 co:sc.isCoroutine=false
 gen:sc.isGenerator=false
 nd:N.Nodup
 pre:N.take P.length=P
 par:∀x∈P,sc.names.lookup x=some .local\/sc.names.lookup x=some .cell
 nofree:∀y∈sc.names,y.2≠.free
theorem zG4 {kindOf:Str->Option NameKind}{x:Str}:∀{binds:List (Str × Value)}{m:Str->Option Value},(∀v,(x,v) ∉ binds)->bindL kindOf binds m x=m x
 | [],_,_=>rfl
 | (n,v)::r,m,h=>by
  unfold bindL
  rw[zG4 fun w hw=>h w (xX _ hw)]
  split
  ·have:x≠n:=by rintro rfl;exact h v xN
   simp[this]
  ·rfl
theorem zG6 {kindOf:Str->Option NameKind}{x:Str}:∀{binds:List (Str × Value)}{m:Str->Option Value},(∀v,(x,v) ∉ binds)->bindC kindOf binds m x=m x
 | [],_,_=>rfl
 | (n,v)::r,m,h=>by
  unfold bindC
  rw[zG6 fun w hw=>h w (xX _ hw)]
  split
  ·rfl
  ·have:x≠n:=by rintro rfl;exact h v xN
   simp[this]
theorem zG5 {kindOf:Str->Option NameKind}{x:Str}{v:Value}:∀{P:List Str}{vs:List Value}{i:Nat}{m:Str->Option Value},P.Nodup->P[i]?=some x->vs[i]?=some v->kindOf x=some .local->
  bindL kindOf (P.zip vs) m x=some v
 | [],_,_,_,_,h,_,_=>by simp at h
 | _::_,[],_,_,_,_,h,_=>by simp at h
 | p::P,w::vs,0,m,nd,h1,h2,hk=>by
  simp at h1 h2;subst h1;subst h2
  show bindL kindOf ((p,w)::P.zip vs) m p=_
  unfold bindL
  rw[zG4 fun v hv=>(vo.mp nd).1 (List.of_mem_zip hv).1,xc hk]
  simp
 | p::P,w::vs,i+1,m,nd,h1,h2,hk=>by
  show bindL kindOf ((p,w)::P.zip vs) m x=_
  unfold bindL
  exact zG5 (i:=i) (vo.mp nd).2 (by simpa using h1) (by simpa using h2) hk
theorem zG7 {kindOf:Str->Option NameKind}{x:Str}{v:Value}:∀{P:List Str}{vs:List Value}{i:Nat}{m:Str->Option Value},P.Nodup->P[i]?=some x->vs[i]?=some v->kindOf x≠some .local->
  bindC kindOf (P.zip vs) m x=some v
 | [],_,_,_,_,h,_,_=>by simp at h
 | _::_,[],_,_,_,_,h,_=>by simp at h
 | p::P,w::vs,0,m,nd,h1,h2,hk=>by
  simp at h1 h2;subst h1;subst h2
  show bindC kindOf ((p,w)::P.zip vs) m p=_
  unfold bindC
  rw[zG6 fun v hv=>(vo.mp nd).1 (List.of_mem_zip hv).1,xf hk]
  simp
 | p::P,w::vs,i+1,m,nd,h1,h2,hk=>by
  show bindC kindOf ((p,w)::P.zip vs) m x=_
  unfold bindC
  exact zG7 (i:=i) (vo.mp nd).2 (by simpa using h1) (by simpa using h2) hk
noncomputable def start (N:List Str) (vs:List V):St:=vs.map some++List.replicate (N.length-vs.length) none
noncomputable def cxOf (CX:CXT) (P:Program) (w:World) (K:PySem.W.Frag) (mg:Str->Option Value) (base:Heap) (N:List Str) (qual:Str) (scope:Scope) (f:Addr) (cd:Value) (A:Around) (outer:List Env) (s:Shared) (H:Hp) (E:XK):Cx where
 prog:=P
 w:=w
 K:=K
 mg:=mg
 base:=base
 A:=A.deeper (envOfC qual scope s.heap.objs.size f cd)
 N:=N
 s₀:=s
 H₀:=H
 env:=envOfC qual scope s.heap.objs.size f cd
 outer:=outer
 stack:=envOfC qual scope s.heap.objs.size f cd::outer
 ex:=[]
 calm:=true
 fn:=fun _=>true
 pn:=[]
 xe:=fun e s'=>wpAny (model P w) (A.deeper (envOfC qual scope s.heap.objs.size f cd)) (leaving (envOfC qual scope s.heap.objs.size f cd) e) (fun _ s''=>CX outer H s E e s'') (fun e' s''=>CX outer H s E e' s'') s'
theorem zIk {sc:Scope}{n:Nat}{x:Str}(h:sc.names.lookup x=some .cell):∃c,(cellsFrom n sc.names []).lookup x=some c:=by
 have q:=PySem.W.cellsFrom_some sc.names n [] (.inl h)
 exact Option.isSome_iff_exists.mp q
theorem zM0 {CX:CXT}{P:Program}{w:World}{K:PySem.W.Frag}{mg:Str->Option Value}{base:Heap}{N ps:List Str}{qual:Str}{scope:Scope}{f:Addr}{cd:Value}{A:Around}{outer:List Env}{s s1:Shared}{H:Hp}{E:XK}{us:List Value}{vs:List V}
  (S:zBl N ps scope) (hd:A.handled=none) (e0:Env0 P w K mg base A outer s H) (hl:vs.length=ps.length) (r:Vals vs us)
  (x:InCallC s s.heap.objs.size (bindL (envOfC qual scope s.heap.objs.size f cd).kindOf (ps.zip us) fun _=>none) (cellsFrom (s.heap.objs.size+1) scope.names []) (bindC (envOfC qual scope s.heap.objs.size f cd).kindOf (ps.zip us) fun _=>none) s1):
  Inv (cxOf CX P w K mg base N qual scope f cd A outer s H E) [] (start N vs) H s1:=by
 have hpl:ps.length<=N.length:=by have:=congrArg List.length S.pre;rw[vS]at this;lia
 obtain⟨h1,tk,rfl,hk⟩:=x.done
 have noA:∀b:Addr,b ∉ (cxOf CX P w K mg base N qual scope f cd A outer s H E).ex:=fun b z=>absurd (show b∈([]:List Addr)from z) (by simp)
 refine⟨⟨e0.mod,S.kind,rfl,rfl,xh _,fun y z c h1 h2=>?_,fun y hy=>?_,fun y c _ h=>?_,fun _=>hd,Around.frames_deeper e0.frames,.inr ⟨rfl,rfl⟩,fun b z=>absurd z (noA b),e0.bs,e0.bsz,fun b _ _=>noA b,fun b z=>absurd z (noA b),e0.funs,e0.frf,e0.gds⟩,
  rfl,e0.bare,Un.kept hk,⟨_,x.toInCall.ns,fun i y v h1 h2 h3=>?_⟩,fun y c h=>⟨_,x.cell y c h⟩,e0.hok.fresh (xh _),fun y c h=>?_,fun p hp=>absurd (show p∈([]:List (Addr × Obj))from hp) (by simp),e0.hok.kept hk,?_⟩
 ·exact name_of_addr x.apart (uy h1) (uy h2)
 ·have hy:scope.names.lookup y=some .cell\/scope.names.lookup y=some .free:=hy
  rcases hy with hy|hy
  ·exact zIk hy
  ·exact absurd rfl (S.nofree _ (uy hy))
 ·exact vm (x.above y c (uy h))
 ·have hi:i<vs.length:=by
   unfold start at h2
   by_cases hi:i<vs.length
   ·exact hi
   ·rw[vA (by simpa using hi)]at h2
    rw[List.getElem?_replicate]at h2
    split at h2 <;> cases h2
  have ha:vs[i]?=some v:=by
   unfold start at h2
   rw[x6 (by simpa using hi),vp]at h2
   cases e:vs[i]? with
   | none=>rw[e]at h2;cases h2
   | some a=>rw[e]at h2;cases h2;rfl
  obtain⟨u,hu,rv⟩:=r.get ha
  have hp:ps[i]?=some y:=by
   rw[<- S.pre,uZ (by nofun)];exact h1
  have ndP:ps.Nodup:=by rw[<- S.pre];exact S.nd.sublist (List.take_sublist _ _)
  refine⟨u,rv,?_⟩
  rcases S.par y (uG hp)with k|k
  ·exact .inl ⟨k,zG5 ndP hp hu k⟩
  ·obtain⟨c,e⟩:=zIk (n:=s.heap.objs.size+1) k
   refine .inr ⟨.inl k,c,e,?_⟩
   have q:=x.cell y c e
   rw[zG7 ndP hp hu (by show scope.names.lookup y≠_;rw[k];decide)]at q
   exact q
 ·exact e0.hok.fresh (vm (x.above y c (uy h)))
 ·unfold start
  show _=N.length
  rw[xE,xq,List.length_replicate]
  lia
theorem zYa {CX:CXT}{P:Program}{w:World}{K:PySem.W.Frag}{mg:Str->Option Value}{base:Heap}{k:Nat}{f:Addr}{name qual:Str}{params:Arguments}{body:List Stmt}{scope:Scope}{dV kV doc pm cdv ct oc:Value}{an od:Option Addr}
  {osl:Array (Option Value)}{N ps:List Str}{sp:Sp}(lk:K.lookup f=some ⟨oc,od,.func (PySem.W.fnOf name qual params body scope dV kV doc pm an cdv ct),osl⟩) (hcd:PySem.W.codeIn K cdv qual=true) (S:zBl N ps scope)
  (len:∀vs H Q E,sp vs H Q E->vs.length=ps.length)
  (hbody:∀(A:Around) (outer:List Env) (s:Shared) (H:Hp) (vs:List V) (Q:VK) (E:XK),Room k (A.deeper (envOfC qual scope s.heap.objs.size f cdv))->sp vs H Q E->
   ∃t,PSs (cxOf CX P w K mg base N qual scope f cdv A outer s H E) body t/\t { nx:=fun _ H'=>Q .non H',rt:=Q } (start N vs) H):
  FnOk P w K mg base CX (k+1) f (PySem.W.fnOf name qual params body scope dV kV doc pm an cdv ct) ps sp:=by
 refine⟨len,fun A outer s H args us vs Q E hr e0 hb r hsp=>?_⟩
 have hl:=len _ _ _ _ hsp
 have KX:K.In s.heap:=e0.mod.kin.keeps fun b o e=>(e0.bs b o e).1
 have lim:s.heap.NoLimit:=e0.mod.nolimit.keeps fun b o e=>(e0.bs b o e).1
 have hkind:∀y∈ps.zip us,scope.names.lookup y.1=some .local\/(scope.names.lookup y.1=some .cell/\((cellsFrom (s.heap.objs.size+1) scope.names []).lookup y.1).isSome=true):=fun⟨n,v⟩ hy=>by
  rcases S.par n (List.of_mem_zip hy).1 with q|q
  ·exact .inl q
  ·exact .inr ⟨q,PySem.W.cellsFrom_some _ _ _ (.inl q)⟩
 refine codeAny_call_function hr.depth (KX _ _ lk) rfl S.co S.gen rfl (PySem.W.codeRec_of KX hcd) (hb _ _ _ _ ?_)
 refine wpAny_newFunctionEnv_cells S.kind hkind fun env he s1 x=>?_
 subst he
 refine⟨lim.keeps x.toInCall.keep,codeAny_func ?_⟩
 obtain⟨t,ht,hq⟩:=hbody A outer s H vs Q E (hr.deeper _) hsp
 have I:Inv (cxOf CX P w K mg base N qual scope f cdv A outer s H E) [] (start N vs) H s1:=zM0 S hr.hd e0 hl r x
 refine xJ (ht [] s1 (start N vs) H _ I hq) (fun fl s' hs=>?_) fun e s' hs=>hs
 have fin:∀{σ':St}{H':Hp}{v:V}{u:Value},Inv (cxOf CX P w K mg base N qual scope f cdv A outer s H E) [] σ' H' s'->RelV v u->Q v H'->CE outer P w H s Q u s':=
  fun {σ' H' v u} J rv q=>⟨v,H',J.os,J.bare,J.base,J.hok,rv,q⟩
 cases fl with
 | ret u=>
  obtain⟨v,σ',H',J,rv,q⟩:=hs
  exact fin J rv q
 | next=>
  obtain⟨σ',H',J,q⟩:=hs
  exact fin (v:=V.non) (u:=Value.none) J rfl q
 | brk=>
  obtain⟨_,_,_,q⟩:=hs
  exact False.elim q
 | cont=>
  obtain⟨_,_,_,q⟩:=hs
  exact False.elim q
end L2
namespace L2
open PySem PySem.Spec PyProof.Rows
section
variable {X:Cx}{x:Str}{p pos:Pos}{e:Expr}{es:List Expr}{t:TA}{id T:String}{r:List V->Hp->VK->Prop}
noncomputable def tCB (r:List V->Hp->VK->Prop) (t:TA):TE:=fun σ H Q=>t σ H fun vs H1=>r vs H1 Q
theorem zOo (hc:zAu X (.builtin id) r) (hg:Gl X x) (hm:X.mg x=none) (hv:bootBuiltins x=some (.builtin id)) (ha:PA X (e::es) t) (hn:x≠"__name__":=by decide) (hdb:(x == ("__debug__":Str))=false:=by decide)
  (he:starEach (e::es) X.env=(false,eval e X.env)::starEach es X.env:=by rfl) (hpl:(backTo pos (starEach es X.env)).any (·.1)=false:=by rfl):PE X (.Call (.Name x p) (e::es) [] pos) (tCB r t):=by
 intro pins s σ H Q I h
 refine vE (zC6 I hg hm hv ?_ hn hdb)
 exact PyProof.Rows.callWith_builtin1 (thn (ha pos pins s σ H _ I h) fun us s1 hz9=>by obtain⟨vs,H1,I1,r1,q1⟩:=hz9;exact hc pins s1 σ H1 vs us Q I1 r1 q1) he hpl
theorem zL4 (hc:zAu X (.type T) r) (hg:Gl X x) (hm:X.mg x=none) (hv:bootBuiltins x=some (.type T)) (ha:PA X (e::es) t) (hn:x≠"__name__":=by decide) (hdb:(x == ("__debug__":Str))=false:=by decide)
  (he:starEach (e::es) X.env=(false,eval e X.env)::starEach es X.env:=by rfl) (hpl:(backTo pos (starEach es X.env)).any (·.1)=false:=by rfl):PE X (.Call (.Name x p) (e::es) [] pos) (tCB r t):=by
 intro pins s σ H Q I h
 refine vE (zC6 I hg hm hv ?_ hn hdb)
 exact uu (thn (ha pos pins s σ H _ I h) fun us s1 hz0=>by obtain⟨vs,H1,I1,r1,q1⟩:=hz0;exact hc pins s1 σ H1 vs us Q I1 r1 q1) he hpl
end
end L2
namespace L2
open PySem PySem.Spec PyProof.Rows
section
variable {κ:Type}[DecidableEq κ]
noncomputable def valV (kvs:List (κ × V)) (k:κ):Option V:=(kvs.find? fun kv=>decide (kv.1=k)).map (·.2)
noncomputable def putK (kvs:List (κ × V)) (k:κ) (v:V):List (κ × V):=
 if(kvs.any fun kv=>decide (kv.1=k))=true then kvs.map (fun kv=>if kv.1=k then(kv.1,v)else kv)else kvs++[(k,v)]
theorem zE3 {p:κ × V}{r:List (κ × V)}{k:κ}(e:p.1=k):valV (p::r) k=some p.2:=by simp[valV,uz,e]
theorem zE4 {p:κ × V}{r:List (κ × V)}{k:κ}(e:¬ p.1=k):valV (p::r) k=valV r k:=by simp[valV,uz,e]
theorem zD2 (kvs:List (κ × V)) (k:κ) (v:V):(putK kvs k v).length<=kvs.length+1:=by
 unfold putK
 split
 ·rw[xq];lia
 ·rw[xE,xA,uA];lia
theorem KV.val {kvs:List (κ × V)}{vs:List (κ × Value)}(r:KV kvs vs) (k:κ):RelO (valV kvs k) (valueAt vs k):=by
 unfold KV at r
 induction r with
 | nil=>exact True.intro
 | @cons p q ps qs h t ih=>
  obtain⟨h1,h2⟩:=h
  by_cases e:p.1=k
  ·have e':q.1=k:=h1.symm.trans e
   have b:valueAt (q::qs) k=some q.2:=by simp[valueAt,uz,e']
   rw[zE3 e,b];exact h2
  ·have e':¬ q.1=k:=fun z=>e (h1.trans z)
   have b:valueAt (q::qs) k=valueAt qs k:=by simp[valueAt,uz,e']
   rw[zE4 e,b];exact ih
theorem KV.any {kvs:List (κ × V)}{vs:List (κ × Value)}(r:KV kvs vs) (k:κ):(kvs.any fun kv=>decide (kv.1=k))=vs.any fun kv=>decide (kv.1=k):=by
 unfold KV at r
 induction r with
 | nil=>rfl
 | cons h t ih=>rw[List.any_cons,List.any_cons,ih,h.1]
theorem KV.repl {kvs:List (κ × V)}{vs:List (κ × Value)}(r:KV kvs vs) (k:κ) {y:V}{u:Value}(ry:RelV y u):
  KV (kvs.map fun kv=>if kv.1=k then(kv.1,y)else kv) (vs.map fun kv=>if kv.1=k then(kv.1,u)else kv):=by
 unfold KV at r ⊢
 induction r with
 | nil=>exact .nil
 | @cons p q ps qs h t ih=>
  rw[xx,xx]
  refine .cons ?_ ih
  obtain⟨h1,h2⟩:=h
  by_cases e:p.1=k
  ·rw[xc e,xc (h1.symm.trans e)];exact⟨h1,ry⟩
  ·rw[xf e,xf (fun z=>e (h1.trans z))];exact⟨h1,h2⟩
theorem KV.put {kvs:List (κ × V)}{vs:List (κ × Value)}(r:KV kvs vs) (k:κ) {y:V}{u:Value}(ry:RelV y u):KV (putK kvs k y) (stored vs k u):=by
 unfold putK stored
 rw[r.any k]
 by_cases e:(vs.any fun kv=>decide (kv.1=k))=true
 ·rw[xc e,xc e];exact r.repl k ry
 ·rw[xf e,xf e];exact Paired.snoc r ⟨rfl,ry⟩
theorem KV.length {kvs:List (κ × V)}{vs:List (κ × Value)}(r:KV kvs vs):kvs.length=vs.length:=Paired.length r
end
theorem zP5 {P:Program}{w:World}{k:Key}{u:Value}(r:RelV (kV k) u):(zAp P w).is k u=true:=by
 cases k with
 | inl i=>obtain⟨t,e⟩:=(show ∃t,u=Value.int i t from r);subst e;exact zGn P w i t
 | inr x=>obtain⟨t,e⟩:=(show ∃t,u=Value.str x t from r);subst e;exact zGm P w x t
theorem zFm {P:Program}{w:World}:∀{ks:List Key}{us:List Value},Vals (ks.map kV) us->ItemsAre (zAp P w) ks us
 | [],_,r=>by rw[vB]at r;cases r;exact .nil
 | k::ks,_,r=>by
  rw[xx]at r
  cases r with
  | cons h t=>exact .cons (zP5 h) (zFm t)
noncomputable abbrev KT (H:Hp):List (List Key × V)->List (List Key × Addr × Value)->Prop:=Paired fun p q=>p.1=q.1/\H q.2.1=some (.tup (p.1.map kV))/\RelV p.2 q.2.2
theorem KT.val {H:Hp}{kvs:List (List Key × V)}{xs:List (List Key × Addr × Value)}(r:KT H kvs xs) (k:List Key):RelO (valV kvs k) ((atKey xs k).map (·.2)):=by
 induction r with
 | nil=>exact True.intro
 | @cons p q ps qs h t ih=>
  obtain⟨h1,_,h2⟩:=h
  by_cases e:p.1=k
  ·have e':q.1=k:=h1.symm.trans e
   have b:atKey (q::qs) k=some q.2:=by simp[atKey,uz,e']
   rw[zE3 e,b];exact h2
  ·have e':¬ q.1=k:=fun z=>e (h1.trans z)
   have b:atKey (q::qs) k=atKey qs k:=by simp[atKey,uz,e']
   rw[zE4 e,b];exact ih
section
variable {P:Program}{w:World}{H:Hp}{h:Heap}{a:Addr}
theorem zNy {u:HO}(ok:HOk P w H h) (e:Rd H a u):ObjOk P w H h a u:=e.ok ok
theorem zPs {kvs:List (Key × V)}(ok:HOk P w H h) (e:Rd H a (.dK kvs)):kvs.length<=sizeLine/\(a == sysModules)=false/\∃vs,KV kvs vs/\h.DictOf (zAp P w) a vs:=
 show ObjOk P w H h a (.dK kvs)from zNy ok e
theorem zYx {kvs:List (Key × V)}(ok:HOk P w H h) (e:H a=some (.dK kvs)):kvs.length<=sizeLine/\(a == sysModules)=false/\∃vs,KV kvs vs/\h.DictOf (zAp P w) a vs:=zPs ok (.inl e)
theorem zQr {ks:List Key}(ok:HOk P w H h) (e:H a=some (.tup (ks.map kV))):(tupleKind (zAp P w)).is h ks a:=by
 obtain⟨_,its,r,o,h1,h2,n,h3⟩:=(show ObjOk P w H h a (.tup (ks.map kV))from ok a _ e)
 exact⟨o,its.toArray,n,h1,h2,h3,by simpa using zFm r⟩
theorem zUd {kvs:List (List Key × V)}(ok:HOk P w H h) (e:Rd H a (.dT kvs)):kvs.length<=sizeLine/\(a == sysModules)=false /\
  ∃xs,KT H kvs xs/\h.DictOfH (tupleKind (zAp P w)) a xs:=by
 obtain⟨z,y,xs,r,o,es,ep,h1,h2,h3,h4,h5⟩:=(show ObjOk P w H h a (.dT kvs)from zNy ok e)
 refine⟨z,y,xs,r,o,es,ep,h1,h2,h3,h4,fun x hx=>?_,h5⟩
 have all:∀{l:List (List Key × V)}{m:List (List Key × Addr × Value)},KT H l m->∀x∈m,(tupleKind (zAp P w)).is h x.1 x.2.1:=by
  intro l m q
  induction q with
  | nil=>intro x hx;exact nomatch hx
  | @cons p q ps qs hq t ih=>
   intro x hx
   rcases xk.mp hx with e|hx
   ·subst e
    exact zQr ok (by rw[<- hq.1];exact hq.2.1)
   ·exact ih x hx
 exact all r x hx
end
noncomputable def DGet (H:Hp) (a:Addr) (y:V) (r:Option V):Prop:=
 (∃kvs k,Rd H a (.dK kvs)/\y=kV k/\r=valV kvs k)\/∃kvs k b,Rd H a (.dT kvs)/\y=.ref b/\H b=some (.tup (k.map kV))/\r=valV kvs k
section
variable {X:Cx}{pins:List (Addr × Obj)}{σ:St}{H:Hp}{s:Shared}{a:Addr}{y v:V}{u r:Value}{o:Option V}{A:Around}{E:Value->Shared->Prop}
theorem Inv.big (I:Inv X pins σ H s):sysModules<s.heap.objs.size:=by
 have h:mainGlobals<s.heap.objs.size:=(I.mod.glob.keeps I.bk).lt
 exact vF (by decide) h
theorem zMp {Q:Value->Shared->Prop}(hu:A.units+1<cLine) (I:Inv X pins σ H s) (g:DGet H a y (some v)) (ry:RelV y u) (h:∀w' s',Inv X pins σ H s'->RelV v w'->Q w' s'):
  wpAny (model X.prog X.w) A (getItem (.ref a) u) Q E s:=by
 rcases g with⟨kvs,k,e,ey,l⟩|⟨kvs,k,b,e,ey,eb,l⟩
 ·subst ey
  obtain⟨z,hd,vs,rel,dd⟩:=zPs I.hok e
  obtain⟨w',hw,rw'⟩:=RelO.some_of (v:=v) (o:=valueAt vs k) (by rw[l];exact rel.val k)
  exact wpAny_getItem_of (zP5 ry) dd.mapOf hw (h w' _ (I.tok _) rw')
 ·subst ey
  cases(show u=Value.ref b from ry)
  obtain⟨z,hd,xs,rel,dd⟩:=zUd I.hok e
  obtain⟨w',hw,rw'⟩:=RelO.some_of (v:=v) (o:=(atKey xs k).map (·.2)) (by rw[l];exact rel.val k)
  obtain⟨p,hp,hp2⟩:=Option.map_eq_some_iff.mp hw
  refine wpAny_getItem_heap (tupleKind_room_in1 hu) (zQr I.hok eb) dd hp ?_
  rw[hp2]
  exact h w' _ (I.tok _) rw'
theorem zMo {h':Heap}{t':Nat}{ob:HO}(I:Inv X pins σ H s) (mu:Mut (H a)) (hs:Heap.SameBut a s.heap h') (he:∃q,h'.get? a=some q) (new:ObjOk X.prog X.w (upd H a ob) h' a ob):
  Inv X pins σ (upd H a ob) { s with heap:=h',toks:=t' }:=
 I.write (x:=a) (e:=a) mu (.inl rfl) (fun b q hb z=>(hs.2 b hb).trans z) he new
theorem zR3 {P:Program}{w:World}{H':Hp}{h':Heap}{kvs:List (Key × V)}{vs:List (Key × Value)}(z:kvs.length<=sizeLine) (hd:(a == sysModules)=false) (rel:KV kvs vs) (dd:h'.DictOf (zAp P w) a vs):
  ObjOk P w H' h' a (.dK kvs):=⟨z,hd,vs,rel,dd⟩
end
section
variable {X:Cx}{pins:List (Addr × Obj)}{σ:St}{H:Hp}{s:Shared}{a:Addr}{kvs:List (Key × V)}{k:Key}{u:Value}{A:Around}{E:Value->Shared->Prop}
theorem yBc {Q:Value->Shared->Prop}(I:Inv X pins σ H s) (e:Rd H a (.dK kvs)) (h:∀t s',Inv X pins σ H s'->Q (.int kvs.length t) s'):wpAny (model X.prog X.w) A (call (.builtin "len") [.ref a]) Q E s:=by
 obtain⟨z,hd,vs,rel,dd⟩:=zPs I.hok e
 refine call_len_dict hd dd (by rw[<- rel.length];rw[xZ]at z;lia) ?_
 rw[<- rel.length]
 exact h _ _ (I.tok _)
end
theorem zGx {X:Cx}{pins:List (Addr × Obj)}{σ:St}{H:Hp}{s:Shared}{a:Addr}{y:V}{o:Option V}(I:Inv X pins σ H s) (g:DGet H a y o):s.TypeIs (.ref a) "dict":=by
 rcases g with⟨kvs,k,e,_,_⟩|⟨kvs,k,b,e,_,_,_⟩
 ·obtain⟨_,_,vs,_,dd⟩:=zPs I.hok e
  exact dd.typeIs
 ·obtain⟨_,_,xs,_,dd⟩:=zUd I.hok e
  exact dd.typeIs
theorem zPt {P:Program}{w:World}{H:Hp}(h:Heap) (hb:sysModules<h.objs.size):ObjOk P w H (h.push { cls:=.type "dict",data:=.dict #[] }) h.objs.size (.dK []):=
 ⟨x8 _,beq_eq_false_iff_ne.mpr (xr (xt hb)),[],.nil,Heap.DictOf.new h⟩
noncomputable def zHk:List (TE × TE)->St->Hp->(List (V × V)->Hp->Prop)->Prop
 | [],_,H,Q=>Q [] H
 | (tk,tv)::r,σ,H,Q=>tk σ H fun x H1=>tv σ H1 fun y H2=>zHk r σ H2 fun ps H3=>Q ((x,y)::ps) H3
noncomputable abbrev VV:List (V × V)->List (Value × Value)->Prop:=Paired fun p q=>RelV p.1 q.1/\RelV p.2 q.2
noncomputable def PPs (X:Cx) (pos:Pos) (keys:List (Option Expr)) (values:List Expr) (trs:List (TE × TE)):Prop:=
 ∀(pins:List (Addr × Obj)) (s:Shared) (σ:St) (H:Hp) (Q:List (V × V)->Hp->Prop),Inv X pins σ H s->zHk trs σ H Q->
  wpAny (model X.prog X.w) X.A (evalPairs (pairTrees keys values X.env pos)) (fun vs s'=>∃ps H',Inv X pins σ H' s'/\VV ps vs/\Q ps H') X.xe s
theorem zSi {X:Cx}{pos:Pos}:PPs X pos [] [] []:=fun pins s σ H Q I h=>pairTrees_nil_walk ⟨[],H,I,.nil,h⟩
theorem zO9 {X:Cx}{pos:Pos}{k v:Expr}{ks:List (Option Expr)}{vs:List Expr}{tk tv:TE}{trs:List (TE × TE)}(hk:PE X k tk) (hv:PE X v tv) (hr:PPs X pos ks vs trs):
  PPs X pos (some k::ks) (v::vs) ((tk,tv)::trs):=fun pins s σ H Q I h=>
 pairTrees_cons_walk (thn (hk pins s σ H _ I h) fun u s1 ⟨x,H1,I1,rx,q1⟩=>thn (hv pins s1 σ H1 _ I1 q1) fun w2 s2 ⟨y,H2,I2,ry,q2⟩=>
  thn (hr pins s2 σ H2 _ I2 q2) fun ws s3 hz1=>by obtain⟨ps,H3,I3,rel,q3⟩:=hz1;exact ⟨(x,y)::ps,H3,I3,.cons ⟨rx,ry⟩ rel,q3⟩)
noncomputable def zCj (kvs more:List (Key × V)):List (Key × V):=more.foldl (fun acc kv=>putK acc kv.1 kv.2) kvs
theorem KV.merge:∀{more:List (Key × V)}{rs:List (Key × Value)}{kvs:List (Key × V)}{vs:List (Key × Value)},KV more rs->KV kvs vs->KV (zCj kvs more) (merged vs rs):=by
 intro more rs kvs vs r
 unfold KV at r
 induction r generalizing kvs vs with
 | nil=>intro q;exact q
 | @cons p q ps qs h t ih=>
  intro r0
  have e:KV (putK kvs p.1 p.2) (stored vs q.1 q.2):=by
   have:=r0.put p.1 h.2
   rw[<- h.1];exact this
  exact ih e
theorem zC5:∀(more kvs:List (Key × V)),(zCj kvs more).length<=kvs.length+more.length
 | [],kvs=>by show kvs.length<=kvs.length+0;lia
 | p::r,kvs=>by
  have h1:=zC5 r (putK kvs p.1 p.2)
  have h2:=zD2 kvs p.1 p.2
  show(zCj (putK kvs p.1 p.2) r).length<=_
  rw[xA];lia
theorem zDy {P:Program}{w:World}:∀{kvs:List (Key × V)}{ws:List (Value × Value)},VV (kvs.map fun kv=>(kV kv.1,kv.2)) ws->∃rs,Carries (zAp P w) ws rs/\KV kvs rs
 | [],_,r=>by rw[vB]at r;cases r;exact⟨[],True.intro,.nil⟩
 | p::kvs,_,r=>by
  rw[xx]at r
  cases r with
  | @cons a b as bs h t=>
   obtain⟨rs,c,q⟩:=zDy (P:=P) (w:=w) t
   obtain⟨b1,b2⟩:=b
   exact⟨(p.1,b2)::rs,⟨zP5 h.1,rfl,c⟩,.cons ⟨rfl,h.2⟩ q⟩
noncomputable def zVq (trs:List (TE × TE)):TE:=fun σ H Q=>∀p,H p=none->zHk trs σ (upd H p (.dK [])) fun ps H2=>H2 p=some (.dK [])/\∃kvs:List (Key × V),ps=kvs.map (fun kv=>(kV kv.1,kv.2))/\kvs.length<=15/\Q (.ref p) (upd H2 p (.dK (zCj [] kvs)))
theorem zSt {X:Cx}{pos:Pos}{keys:List (Option Expr)}{values:List Expr}{trs:List (TE × TE)}(h:PPs X pos keys values trs) (hall:keys.all (·.isSome)=true) (hl:keys.length=values.length) (h0:keys≠[])
  (h15:keys.length<=15):PE X (.Dict keys values pos) (zVq trs):=by
 intro pins s σ H Q I q
 have hn:=I.hok.fresh (xh s.heap.objs.size)
 have I1:=I.laid (a:=s.heap.objs.size) (o:=.dK []) (h':=s.heap.push { cls:=.type "dict",data:=.dict #[] }) (t':=s.toks) (fun _ _ q=>xi _ q) (xh _) (zPt s.heap I.big)
 refine wpAny_Dict_walk (knd:=zAp X.prog X.w) hall hl h0 h15 (thn (h pins _ σ _ _ I1 (q _ hn)) fun ws s2 hq1=>?_)
 obtain⟨ps,H2,I2,rel,e,kvs,ep,lk,q2⟩:=hq1
 subst ep
 obtain⟨rs,c,rk⟩:=zDy (P:=X.prog) (w:=X.w) rel
 obtain⟨z,hd,vs0,r0,dd⟩:=zYx I2.hok e
 cases r0
 refine⟨rs,c,dd,fun h' dd' hs=>⟨.ref s.heap.objs.size,_,?_,rfl,q2⟩⟩
 have hz:(zCj [] kvs).length<=sizeLine:=by
  have h1:=zC5 kvs []
  rw[uA]at h1
  rw[xZ];lia
 have he:∃q,h'.get? s.heap.objs.size=some q:=let ⟨q,_,_,hq,_⟩:=dd';⟨q,hq⟩
 exact zMo I2 (by rw[e];exact True.intro) hs he (zR3 hz hd (rk.merge .nil) dd')
end L2
namespace HT
open PySem PyProof.Rows
section
open PySem.SeqAt
open PySem.AutoSeq1 (wpAny_loadPart')
open PySem.MeetsSeq PySem.MeetsSeq2 PySem.MeetsSeq3
end
section
variable {prog:Program}{w:World}{A:Around}{E:Value->Shared->Prop}{s:Shared}
theorem cat_tup {t b:Addr}{vs ws:List Value}{Q:Value->Shared->Prop}(ht:IsTup s.heap t vs.toArray) (hb:IsTup s.heap b ws.toArray) (hv:vs≠[])
  (h1:ws=[]->Q (.ref t) s) (h2:ws≠[]->Q (.ref s.heap.objs.size) { s with heap:=s.heap.push { cls:=.type "tuple",data:=.seq (vs++ws).toArray } })
  (hsz:vs.length+ws.length<=sizeLine):wpAny (model prog w) A (binaryOp .Add (.ref t) (.ref b)) Q E s:=by
 obtain⟨⟨cls,dd,data,sl⟩,ho,hc,n,hd⟩:=id ht
 obtain⟨⟨cls2,dd2,data2,sl2⟩,ho2,hc2,n2,hd2⟩:=id hb
 simp only at hc hd hc2 hd2
 subst hc hd hc2 hd2
 have e:vs.toArray++ws.toArray=(vs++ws).toArray:=by simp
 by_cases hw:ws=[]
 ·exact concat_meets ⟨_,ho,rfl⟩ ⟨_,ho2,rfl⟩ noFill_tuple_add seq_tuple_add PySem.F.slot_tuple_add PySem.F.entry_tuple_add (PySem.F.args_tuple_add_2 _ _)
   (tuple_addW1 t b vs.toArray ws.toArray n n2 dd dd2 sl sl2 (by simpa using hv) (by simp[hw])) ⟨ho,ho2,h1 hw⟩
 ·refine concat_meets ⟨_,ho,rfl⟩ ⟨_,ho2,rfl⟩ noFill_tuple_add seq_tuple_add PySem.F.slot_tuple_add PySem.F.entry_tuple_add (PySem.F.args_tuple_add_2 _ _)
   (tuple_addW2 t b vs.toArray ws.toArray n n2 dd dd2 sl sl2 (by simpa using hv) (by simpa using hw) (by rw[xu,xu];exact hsz)) ⟨ho,ho2,?_⟩
  rw[e]
  exact h2 hw
noncomputable def sIx (n d:Nat):Option Int->Nat
 | none=>d
 | some v=>if v<0 then(v+(n:Int)).toNat else min v.toNat n
theorem sIx_le (n d:Nat) (hd:d<=n) (o:Option Int):sIx n d o<=n:=by
 cases o with
 | none=>exact hd
 | some v=>
  show(if v<0 then(v+(n:Int)).toNat else min v.toNat n)<=n
  by_cases hv:v<0
  ·rw[xc hv];lia
  ·rw[xf hv];exact Nat.min_le_right _ _
theorem zMu (v:Int) (n d:Nat):(if v<0 then max (v+(n:Int)) 0 else min v (n:Int))=((sIx n d (some v):Nat):Int):=by
 show(if v<0 then max (v+(n:Int)) 0 else min v (n:Int))=(((if v<0 then(v+(n:Int)).toNat else min v.toNat n):Nat):Int)
 by_cases hv:v<0
 ·simp only[xc hv];lia
 ·simp only[xf hv];lia
theorem zJu (lo hi:Option Int) (n:Nat):Builtin.Slice.sliceAdjust lo hi 1 (n:Int)=(((sIx n 0 lo:Nat):Int),((sIx n n hi:Nat):Int)):=by
 have h1:¬ ((1:Int)<0):=by nofun
 unfold Builtin.Slice.sliceAdjust
 simp only[h1,xK]
 refine Prod.ext ?_ ?_
 ·cases lo with
  | none=>rfl
  | some v=>exact zMu v n 0
 ·cases hi with
  | none=>rfl
  | some v=>exact zMu v n n
theorem zJ4 (i j:Nat):Builtin.Slice.slicePlaces (i:Int) (j:Int) 1=j-i:=by
 unfold Builtin.Slice.slicePlaces
 have h1:(1:Int) > 0:=by nofun
 simp only[h1,xn,Int.ediv_one]
 split <;> lia
theorem zDm {v:Value}{o:Option Int}{Q:Option Int->Shared->Prop}(p:IsPart v o) (h:Q o s):wpAny (model prog w) A (Builtin.Slice.slicePartIndex v) Q E s:=by
 cases p with
 | none=>exact slicePart_none h
 | int i t=>exact slicePart_int h
theorem sliceApplied_gen {sl:Addr}{vl vu:Value}{lo hi:Option Int}{n:Nat}{Q:Int × Int × Nat->Shared->Prop}(hs:s.heap.IsSliceOf sl vl vu .none) (pl:IsPart vl lo) (pu:IsPart vu hi)
  (h:Q (((sIx n 0 lo:Nat):Int),1,sIx n n hi-sIx n 0 lo) s):wpAny (model prog w) A (Builtin.Slice.sliceApplied (.ref sl) (pure (n:Int))) Q E s:=by
 obtain⟨os,hos,hcs,hds⟩:=id hs
 unfold Builtin.Slice.sliceApplied Builtin.Slice.sliceFields
 refine xa (xa (xM hos hds (x:=vl) rfl (xa (xM hos hds (x:=vu) rfl (xa (xM hos hds (x:=.none) rfl (xg ?_)))))))
 refine xa (slicePart_none ?_)
 show wpAny _ _ (if((1:Int) == 0)=true then _ else _) _ _ s
 rw[xf (by decide)]
 refine xa (zDm pl (xa (zDm pu (xa (xg ?_)))))
 show wpAny _ _ (match Builtin.Slice.sliceAdjust lo hi 1 (n:Int)with|(lo,hi)=>pure (lo,(1:Int),Builtin.Slice.slicePlaces lo hi 1)) _ _ s
 rw[zJu lo hi n]
 show wpAny _ _ (pure (((sIx n 0 lo:Nat):Int),(1:Int),Builtin.Slice.slicePlaces ((sIx n 0 lo:Nat):Int) ((sIx n n hi:Nat):Int) 1)) _ _ s
 rw[zJ4]
 exact xg h
theorem zOf (xs:Array Value) (i k:Nat):((List.range k).filterMap fun(m:Nat)=>xs[((i:Int)+(m:Int)*1).toNat]?).toArray=((xs.toList.drop i).take k).toArray:=by
 have e:(fun(m:Nat)=>xs[((i:Int)+(m:Int)*1).toNat]?)=fun m=>xs[i+m]?:=by
  funext m
  have:((i:Int)+(m:Int)*1).toNat=i+m:=by nofun
  rw[this]
 rw[e]
 have:=pick_run xs i k
 rw[List.filterMap_map]at this
 have e2:((fun x=>xs[x]?) ∘ fun x=>i+x)=fun m=>xs[i+m]?:=rfl
 rw[e2]at this
 rw[this]
theorem getItem_tuple_cut {t sl:Addr}{items:Array Value}{vl vu:Value}{lo hi:Option Int}{Q:Value->Shared->Prop}(ht:IsTup s.heap t items) (hs:s.heap.IsSliceOf sl vl vu .none) (pl:IsPart vl lo) (pu:IsPart vu hi)
  (hw:¬ (sIx items.size 0 lo=0/\sIx items.size items.size hi=items.size))
  (h:Q (.ref s.heap.objs.size) { s with heap:=s.heap.push { cls:=.type "tuple",data:=.seq ((items.toList.drop (sIx items.size 0 lo)).take (sIx items.size items.size hi-sIx items.size 0 lo)).toArray } })
  (hsz:items.size<=sizeLine):wpAny (model prog w) A (getItem (.ref t) (.ref sl)) Q E s:=by
 have htake:sizeOk (.seq ((items.toList.drop (sIx items.size 0 lo)).take (sIx items.size items.size hi-sIx items.size 0 lo)).toArray):=by
  show((items.toList.drop (sIx items.size 0 lo)).take (sIx items.size items.size hi-sIx items.size 0 lo)).toArray.size<=sizeLine
  rw[xu,vS,vq,uq]
  lia
 have hj:sIx items.size items.size hi<=items.size:=sIx_le _ _ (xh _) hi
 obtain⟨os,hos,hcs,hds⟩:=id hs
 have hTs:s.TypeIs (.ref sl) "slice":=⟨os,hos,hcs⟩
 unfold getItem
 try with_reducible refine xG ?_
 first|refine xa (xg ?_)|skip
 refine xa (wpAny_sequenceKey ht.typeIs (by decide) ?_)
 refine xa (vG (name:=Str.ofString "__getitem__") ht.typeIs ud
  (xW ud ht.typeIs entry_tuple_getitem ?_ (args_tuple_getitem _ _)))
 show wpAny _ _ (Builtin.Tuple.tupleItemsOf (.ref t) >>= _) _ _ s
 refine xa (tupleItemsOf_ ht ?_)
 refine xa (ue hTs ?_)
 rw[xc (by decide)]
 refine xa (sliceApplied_gen hs pl pu ?_)
 have hno:¬ ((((sIx items.size 0 lo:Nat):Int) == 0 && (1:Int) == 1 && (sIx items.size items.size hi-sIx items.size 0 lo) == items.size)=true):=by
  intro q
  rw[xm,xm]at q
  have q1:((sIx items.size 0 lo:Nat):Int)=0:=eq_of_beq q.1.1
  have q2:sIx items.size items.size hi-sIx items.size 0 lo=items.size:=eq_of_beq q.2
  exact hw ⟨by nofun,by nofun⟩
 show wpAny _ _ (if(((sIx items.size 0 lo:Nat):Int) == 0 && (1:Int) == 1 && (sIx items.size items.size hi-sIx items.size 0 lo) == items.size)=true then _ else _) _ _ s
 rw[xf hno,zOf]
 first
  | exact xa (m:=Builtin.Tuple.tupleExact _) (vf (xg ⟨_,rfl,xg h⟩) htake)
  | exact xa (m:=Builtin.Tuple.tupleExact _) (vf (xa (xg (xg ⟨_,rfl,xg h⟩))) htake)
  | exact xa (xa (m:=Builtin.Tuple.tupleExact _) (vf (xg (xg ⟨_,rfl,xg h⟩)) htake))
  | exact xa (xa (m:=Builtin.Tuple.tupleExact _) (vf (xg ⟨_,rfl,xg h⟩) htake))
end
end HT
namespace L2
open PySem PySem.Spec PyProof.Rows
noncomputable abbrev TO:=St->Hp->(Option Int->Hp->Prop)->Prop
noncomputable def PO (X:Cx) (e:Option Expr) (t:TO):Prop:=
 ∀(pins:List (Addr × Obj)) (s:Shared) (σ:St) (H:Hp) (Q:Option Int->Hp->Prop),Inv X pins σ H s->t σ H Q->
  wpAny (model X.prog X.w) X.A (evalPart e X.env) (fun u s'=>∃o H',Inv X pins σ H' s'/\IsPart u o/\Q o H') X.xe s
noncomputable def zK4:TO:=fun _ H Q=>Q none H
noncomputable def zVo (t:TE):TO:=fun σ H Q=>t σ H fun x H1=>∃i,x=.int i/\Q (some i) H1
section
variable {X:Cx}{e:Expr}{te:TE}{lo hi:Option Expr}{tl th:TO}{pos p2:Pos}
theorem zSk:PO X none zK4:=by
 intro pins s σ H Q I h
 rw[evalPart_none]
 exact xg ⟨none,H,I,.none,h⟩
theorem zSj (h:PE X e te):PO X (some e) (zVo te):=by
 intro pins s σ H Q I hw
 rw[evalPart_some]
 refine thn (h pins s σ H _ I hw) fun u s1 hq1=>?_
 obtain⟨x,H1,I1,r1,q1⟩:=hq1
 obtain⟨i,rfl,q⟩:=q1
 obtain⟨t,rfl⟩:=r1
 exact⟨some i,H1,I1,.int i t,q⟩
noncomputable def SlR (X:Cx) (r:V->Option Int->Option Int->Hp->VK->Prop):Prop:=
 ∀(pins:List (Addr × Obj)) (s:Shared) (σ:St) (H:Hp) (x:V) (v vl vu:Value) (lo hi:Option Int) (sl:Addr) (Q:VK),Inv X pins σ H s->RelV x v->s.heap.IsSliceOf sl vl vu .none->IsPart vl lo->IsPart vu hi->r x lo hi H Q->
  ∃T id,typeLookup (.type T) "__getitem__"=pure (some (.builtin id))/\s.TypeIs v T/\wpAny (model X.prog X.w) X.A (getItem v (.ref sl)) (EP X pins σ Q) X.xe s
noncomputable def tSl (r:V->Option Int->Option Int->Hp->VK->Prop) (te:TE) (tl th:TO):TE:=fun σ H Q=>te σ H fun x H1=>tl σ H1 fun l H2=>th σ H2 fun u H3=>r x l u H3 Q
theorem zOi {r:V->Option Int->Option Int->Hp->VK->Prop}(hr:SlR X r) (he:PE X e te) (hl:PO X lo tl) (hu:PO X hi th):PE X (.Subscript e (.Slice lo hi none p2) pos) (tSl r te tl th):=by
 intro pins s σ H Q I h
 refine Subscript_ (thn (he pins s σ H _ I h) fun v s1 hq1=>?_)
 obtain⟨x,H1,I1,r1,q1⟩:=hq1
 refine wpAny_Slice (thn (hl pins s1 σ H1 _ I1 q1) fun vl s2 ⟨l,H2,I2,pl,q2⟩=>thn (hu pins s2 σ H2 _ I2 q2) fun vu s3 hq1=>?_)
 obtain⟨u,H3,I3,pu,q3⟩:=hq1
 rw[evalPart_none]
 refine xg ?_
 have I4:Inv X pins σ H3 { s3 with heap:=s3.heap.push { cls:=.type "slice",data:=.fields #[vl,vu,.none] } }:=I3.kept (t':=s3.toks) fun b ob q=>xi _ q
 obtain⟨T,id,hT,ht,hg⟩:=hr pins { s3 with heap:=s3.heap.push { cls:=.type "slice",data:=.fields #[vl,vu,.none] } } σ H3 x v vl vu l u s3.heap.objs.size Q I4 r1 (Heap.IsSliceOf.new ..) pl pu q3
 show wpAny (model X.prog X.w) X.A (subscriptTail e (.Slice lo hi none p2) v (.ref s3.heap.objs.size)) (EP X pins σ Q) X.xe { s3 with heap:=s3.heap.push { cls:=.type "slice",data:=.fields #[vl,vu,.none] } }
 exact tail_any (ops:=[.ref s3.heap.objs.size,v]) ht hT hg (by with_unfolding_all rfl)
noncomputable def cutV (xs:List V) (lo hi:Option Int):List V:=(xs.drop (HT.sIx xs.length 0 lo)).take (HT.sIx xs.length xs.length hi-HT.sIx xs.length 0 lo)
theorem zD8 (xs:List V) (lo hi:Option Int):(cutV xs lo hi).length<=xs.length:=by
 unfold cutV
 rw[vS,vq]
 lia
noncomputable def rSlT (K:PySem.W.Frag):V->Option Int->Option Int->Hp->VK->Prop:=fun x lo hi H Q=>∃a xs,x=.ref a/\SqT K H a xs /\
 ¬ (HT.sIx xs.length 0 lo=0/\HT.sIx xs.length xs.length hi=xs.length)/\∀p,H p=none->Q (.ref p) (upd H p (.tup (cutV xs lo hi)))
theorem zQb:SlR X (rSlT X.K):=by
 intro pins s σ H x v vl vu lo hi sl Q I rx hs pl pu h
 obtain⟨a,xs,rfl,hx,hw,q⟩:=h
 cases rx
 obtain⟨its,r,ht,hz⟩:=I.tuple hx
 have hlen:its.toArray.size=xs.length:=by rw[xu];exact r.length.symm
 refine⟨"tuple",_,ud.lookup,ht.typeIs,?_⟩
 refine HT.getItem_tuple_cut ht hs pl pu (by rw[hlen];exact hw) ?_ (by rw[hlen];exact hz)
 rw[hlen]
 refine⟨.ref s.heap.objs.size,_,I.laid (t':=s.toks) (o:=.tup (cutV xs lo hi)) (fun b ob q=>xi _ q) (xh _) ?_,rfl,q _ (I.hok.fresh (xh _))⟩
 exact⟨xp (zD8 xs lo hi) hz,_,(r.drop (HT.sIx xs.length 0 lo)).take (HT.sIx xs.length xs.length hi-HT.sIx xs.length 0 lo),IsTup.new _ _⟩
noncomputable def yA0 (K:PySem.W.Frag):R2:=fun x y H Q=>∃a b xs ys,x=.ref a/\y=.ref b/\SqT K H a xs/\SqT K H b ys/\xs≠[]/\xs.length+ys.length<=sizeLine /\
 (ys=[]->Q (.ref a) H)/\(ys≠[]->∀p,H p=none->Q (.ref p) (upd H p (.tup (xs++ys))))
theorem Vals.nil_iff {xs:List V}{us:List Value}(r:Vals xs us):us=[] <-> xs=[]:=by
 cases r with
 | nil=>simp
 | cons _ _=>simp
theorem zT7:OpR X (binaryOp .Add) (yA0 X.K):=by
 intro pins s σ H x y v u Q I rx ry h
 obtain⟨a,b,xs,ys,rfl,rfl,ha,hb,hx,hz,q1,q2⟩:=h
 cases rx
 cases ry
 obtain⟨its,r1,p1,_⟩:=I.tuple ha
 obtain⟨its2,r2,p2,_⟩:=I.tuple hb
 refine HT.cat_tup p1 p2 (fun z=>hx (r1.nil_iff.mp z)) (fun z=>⟨.ref a,H,I,rfl,q1 (r2.nil_iff.mp z)⟩) (fun z=>?_) (by rw[<- r1.length,<- r2.length];exact hz)
 refine⟨.ref s.heap.objs.size,_,I.laid (t':=s.toks) (o:=.tup (xs++ys)) (fun b ob q=>xi _ q) (xh _) ?_,rfl,q2 (fun w=>z (r2.nil_iff.mpr w)) _ (I.hok.fresh (xh _))⟩
 exact⟨by rw[xE];exact hz,_,r1.append r2,IsTup.new _ _⟩
end
end L2
namespace L2
open PySem PySem.Spec PyProof.Rows
noncomputable def ixN (n:Nat) (i:Int):Option Nat:=if 0<=i then(if i<n then some i.toNat else none)else if -(n:Int)<=i then some (i+n).toNat else none
noncomputable def atI {α:Type}(xs:List α) (i:Int):Option α:=(ixN xs.length i).bind fun j=>xs[j]?
theorem zTq {n:Nat}{i:Int}{j:Nat}(h:ixN n i=some j):seqIndex? i n=some j/\j<n/\-(n:Int)<=i/\i<n:=by
 unfold ixN at h
 by_cases h0:0<=i
 ·rw[xc h0]at h
  by_cases h1:i<n
  ·rw[xc h1]at h
   have e:i.toNat=j:=xD h
   exact⟨by rw[seqIndex_of h0 h1,e],by nofun,by nofun,h1⟩
  ·rw[xf h1]at h;cases h
 ·rw[xf h0]at h
  by_cases h1:-(n:Int)<=i
  ·rw[xc h1]at h
   have e:(i+n).toNat=j:=xD h
   exact⟨by rw[seqIndex_neg (by nofun) h1,e],by nofun,h1,by nofun⟩
  ·rw[xf h1]at h;cases h
theorem zHg {α:Type}{xs:List α}{i:Int}{v:α}(h:atI xs i=some v):∃j,seqIndex? i xs.length=some j/\xs[j]?=some v/\j<xs.length/\-(xs.length:Int)<=i/\i<xs.length:=by
 unfold atI at h
 cases e:ixN xs.length i with
 | none=>rw[e]at h;cases h
 | some j=>
  rw[e]at h
  obtain⟨h1,h2,h3,h4⟩:=zTq e
  exact⟨j,h1,h,h2,h3,h4⟩
noncomputable def zNf (b:Expr):Prop:=∀o i,subscripted b false o i=operate [o,i] (getItem o i)
noncomputable def IxR (X:Cx) (r:R2):Prop:=
 ∀(value slice:Expr) (pins:List (Addr × Obj)) (s:Shared) (σ:St) (H:Hp) (x y:V) (v u:Value) (Q:VK),Inv X pins σ H s->RelV x v->RelV y u->r x y H Q->
  subscripted slice false v u=operate [v,u] (getItem v u)->wpAny (model X.prog X.w) X.A (subscriptTail value slice v u) (EP X pins σ Q) X.xe s
noncomputable def MtR (X:Cx) (id:String) (r:V->List V->Hp->VK->Prop):Prop:=
 ∀(pins:List (Addr × Obj)) (s:Shared) (σ:St) (H:Hp) (x:V) (xs:List V) (v:Value) (us:List Value) (Q:VK),Inv X pins σ H s->RelV x v->Vals xs us->r x xs H Q->
  wpAny (model X.prog X.w) X.A (call (.builtin id) (v::us)) (EP X pins σ Q) X.xe s
section
variable {X:Cx}{a b:Expr}{ta tb:TE}{pos:Pos}
theorem yAb {r:R2}(hr:IxR X r) (ha:PE X a ta) (hb:PE X b tb) (hs:zNf b):PE X (.Subscript a b pos) (tOp r ta tb):=by
 intro pins s σ H Q I h
 exact Subscript_ (binT ha hb I h fun v u s2 x y H2 I2 rx ry q=>hr a b pins s2 σ H2 x y v u Q I2 rx ry q (hs _ _))
noncomputable def rIxL (K:PySem.W.Frag):R2:=fun x y H Q=>∃p xs i v,x=.ref p/\y=.int i/\SqL K H p xs/\atI xs i=some v/\Q v H
noncomputable def rIxT (K:PySem.W.Frag):R2:=fun x y H Q=>∃p xs i v,x=.ref p/\y=.int i/\SqT K H p xs/\atI xs i=some v/\Q v H
noncomputable def rIxS:R2:=fun x y H Q=>∃z i c,x=.str z/\y=.int i/\z.length<=sizeLine/\atI z.cps.toList i=some c/\Q (.str ⟨#[c]⟩) H
theorem zTp:IxR X (rIxL X.K):=by
 intro value slice pins s σ H x y v u Q I rx ry h hs
 obtain⟨p,xs,i,z,rfl,rfl,hq,he,q⟩:=h
 cases rx
 obtain⟨t,rfl⟩:=ry
 obtain⟨its,r,pl,hz⟩:=I.list hq
 obtain⟨j,h1,h2,h3,h4,h5⟩:=zHg he
 obtain⟨w,ew,rw'⟩:=r.get h2
 have hl:=r.length
 have hn:=line63
 have fin:EP X pins σ Q w s:=⟨z,H,I,rw',q⟩
 by_cases h0:0<=i
 ·have hj:i.toNat=j:=by
   rw[seqIndex_of h0 h5]at h1
   exact xD h1
  exact item_listR pl.isList h0 (by nofun) (by rw[hj];simpa using ew) fin hs
 ·have hj:(i+(its.toArray.size:Int)).toNat=j:=by
   rw[seqIndex_neg (by nofun) h4]at h1
   rw[xu,<- hl]
   exact xD h1
  exact subscriptTail_builtinR (x:=w) pl.isList.typeIs slot_list_getitem.lookup
   (wpAny_getItem_list_neg (Q:=fun r s'=>r=w/\EP X pins σ Q r s') pl.isList (by nofun) (by rw[xu] <;> lia) (by nofun) (by rw[hj];simpa using ew) ⟨rfl,fin⟩) hs
theorem zXy:IxR X (rIxT X.K):=by
 intro value slice pins s σ H x y v u Q I rx ry h hs
 obtain⟨p,xs,i,z,rfl,rfl,hq,he,q⟩:=h
 cases rx
 obtain⟨t,rfl⟩:=ry
 obtain⟨its,r,pl,hz⟩:=I.tuple hq
 obtain⟨j,h1,h2,h3,h4,h5⟩:=zHg he
 obtain⟨w,ew,rw'⟩:=r.get h2
 have hl:=r.length
 have hn:=line63
 have fin:EP X pins σ Q w s:=⟨z,H,I,rw',q⟩
 exact subscriptTail_builtinR (x:=w) pl.typeIs slot_tuple_getitem.lookup
  (getItem_tuple (j:=j) (Q:=fun r s'=>r=w/\EP X pins σ Q r s') pl (by nofun) (by nofun) (by rw[xu,<- hl];exact h1) (by simpa using ew) ⟨rfl,fin⟩) hs
theorem zXz:IxR X rIxS:=by
 intro value slice pins s σ H x y v u Q I rx ry h hs
 obtain⟨z,i,c,rfl,rfl,hz,he,q⟩:=h
 obtain⟨t,rfl⟩:=rx
 obtain⟨t',rfl⟩:=ry
 obtain⟨j,h1,h2,h3,h4,h5⟩:=zHg he
 have hl:z.cps.toList.length=z.length:=by simp[Str.length]
 rw[hl]at h1 h4 h5
 have hn:=line63
 exact tail_any (typeIs_str s z t) slot_str_getitem.lookup (getItem_str (c:=c) (by
  have e1:decide (i < -(2 ^ 63:Int))=false:=xl (by nofun)
  have e2:decide (i >= 2 ^ 63)=false:=xl (by nofun)
  rw[e1,e2,Bool.or_false]) (by rw[h1];simpa using h2) ⟨.str ⟨#[c]⟩,H,I.tok _,⟨_,rfl⟩,q⟩) hs
theorem zFc (lo hi:Option Int) (n:Nat):(sliceBounds lo hi none n).1=((HT.sIx n 0 lo:Nat):Int)/\(sliceBounds lo hi none n).2.1=((HT.sIx n n hi:Nat):Int)/\(sliceBounds lo hi none n).2.2=1:=by
 refine⟨?_,?_,rfl⟩
 ·cases lo with
  | none=>simp[sliceBounds,HT.sIx]
  | some i=>
   simp only[sliceBounds,HT.sIx,Option.getD_none,show(1:Int) > 0 by decide,xn]
   by_cases h:i<0
   ·simp only[h,xn] <;> lia
   ·simp only[h,xK] <;> lia
 ·cases hi with
  | none=>simp[sliceBounds,HT.sIx]
  | some i=>
   simp only[sliceBounds,HT.sIx,Option.getD_none,show(1:Int) > 0 by decide,xn]
   by_cases h:i<0
   ·simp only[h,xn] <;> lia
   ·simp only[h,xK] <;> lia
theorem zEa (its:List Value) (lo hi:Option Int):slicePick its.toArray lo hi none=((its.drop (HT.sIx its.length 0 lo)).take (HT.sIx its.length its.length hi-HT.sIx its.length 0 lo)).toArray:=by
 obtain⟨h1,h2,h3⟩:=zFc lo hi its.toArray.size
 unfold slicePick
 rw[h1,h2,h3]
 simp only[sliceRange_one,pick_run,xu] <;> rfl
noncomputable def rSlL (K:PySem.W.Frag):V->Option Int->Option Int->Hp->VK->Prop:=fun x lo hi H Q=>∃a xs,x=.ref a/\SqL K H a xs/\∀p,H p=none->Q (.ref p) (upd H p (.lst (cutV xs lo hi)))
theorem zRr:SlR X (rSlL X.K):=by
 intro pins s σ H x v vl vu lo hi sl Q I rx hs pl pu h
 obtain⟨a,xs,rfl,hx,q⟩:=h
 cases rx
 obtain⟨its,r,ht,hz⟩:=I.list hx
 have hlen:=r.length
 refine⟨"list",_,slot_list_getitem.lookup,ht.isList.typeIs,?_⟩
 refine wpAny_getItem_list_slice ht.isList hs pl pu .none (by simp) ?_ (by rw[xu] <;> lia)
 rw[zEa,<- hlen]
 refine⟨.ref s.heap.objs.size,_,I.laid (t':=s.toks) (o:=.lst (cutV xs lo hi)) (fun b ob q=>xi _ q) (xh _) ?_,rfl,q _ (I.hok.fresh (xh _))⟩
 exact⟨xp (zD8 xs lo hi) hz,_,0,(r.drop (HT.sIx xs.length 0 lo)).take (HT.sIx xs.length xs.length hi-HT.sIx xs.length 0 lo),xw _ rfl⟩
theorem zFy:zAu X (.builtin "len") (fun xs H Q=>∃p ys,xs=[.ref p]/\(SqL X.K H p ys\/SqT X.K H p ys)/\Q (.int ys.length) H):=by
 intro pins s σ H xs us Q I r h
 obtain⟨p,ys,rfl,hq,q⟩:=h
 obtain⟨u,rfl,rx⟩:=vals1 r
 cases rx
 have hn:=line63
 rcases hq with hq|hq
 ·obtain⟨its,r',pl,hz⟩:=I.list hq
  have hlen:=r'.length
  exact Calls.call_len_list pl.isList (by simp only[xu] <;> lia) ⟨.int ys.length,H,I.tok _,⟨s.toks+1,by rw[xu,hlen]⟩,q⟩
 ·obtain⟨its,r',pl,hz⟩:=I.tuple hq
  have hlen:=r'.length
  exact len_tuple pl (by simp only[xu] <;> lia) ⟨.int ys.length,H,I.tok _,⟨s.toks+1,by rw[xu,hlen]⟩,q⟩
theorem zFx:zAu X (.builtin "len") (fun xs H Q=>∃z,xs=[.str z]/\z.length<=sizeLine/\Q (.int z.length) H):=by
 intro pins s σ H xs us Q I r h
 obtain⟨z,rfl,hz,q⟩:=h
 obtain⟨u,rfl,t,rfl⟩:=vals1 r
 have hn:=line63
 exact len_str (by nofun) ⟨.int z.length,H,I.tok _,⟨_,rfl⟩,q⟩
theorem zBd:zAu X (.type "tuple") (fun xs H Q=>∃p ys,xs=[.ref p]/\((SqL X.K H p ys/\∀l,H l=none->Q (.ref l) (upd H l (.tup ys)))\/(SqT X.K H p ys/\Q (.ref p) H))):=by
 intro pins s σ H xs us Q I r h
 obtain⟨p,ys,rfl,h⟩:=h
 obtain⟨u,rfl,rx⟩:=vals1 r
 cases rx
 rcases h with⟨hq,q⟩|⟨hq,q⟩
 ·obtain⟨its,r',pl,hz⟩:=I.list hq
  have hlen:=r'.length
  refine call_tuple_list pl.isList (fun h' kp=>?_) (by simp only[xu] <;> lia)
  have I1:Inv X pins σ H { s with heap:=h' }:=I.kept (t':=s.toks) kp
  have I2:Inv X pins σ (upd H h'.objs.size (.tup ys)) { s with heap:=h'.push { cls:=.type "tuple",data:=.seq its.toArray } }:=
   I1.laid (t':=s.toks) (fun b o e=>xi _ e) (xh _) (show ObjOk X.prog X.w _ _ _ (.tup ys)from⟨hz,its,r',IsTup.new _ _⟩)
  exact⟨.ref h'.objs.size,_,I2,rfl,q _ (I1.hok.fresh (xh _))⟩
 ·obtain⟨its,r',pl,hz⟩:=I.tuple hq
  exact call_tuple_same pl ⟨.ref p,H,I,rfl,q⟩
noncomputable def tyV (K:PySem.W.Frag) (T:String) (x:V) (H:Hp):Prop:=match x with
 | .str _=>T="str"
 | .int _=>T="int"
 | .ref p=>(T="list"/\∃xs,SqL K H p xs)\/(T="tuple"/\∃o,K.lookup p=some o/\o.cls=.type "tuple"/\o.dict=none) \/
   (T="dict"/\((∃kvs,Rd H p (.dK kvs))\/∃kvs,Rd H p (.dT kvs)))\/(T="set"/\∃S n,H p=some (.set S n))
 | _=>False
theorem zQ7 {pins:List (Addr × Obj)}{σ:St}{H:Hp}{s:Shared}{T:String}{x:V}{v:Value}(I:Inv X pins σ H s) (r:RelV x v) (ty:tyV X.K T x H):
  s.TypeIs v T/\∀a,v=.ref a->∃ob,s.heap.get? a=some ob/\ob.dict=none:=by
 cases x with
 | str z=>
  obtain⟨t,rfl⟩:=r
  cases(show T="str" from ty)
  exact⟨typeIs_str s z t,fun _ e=>nomatch e⟩
 | int i=>
  obtain⟨t,rfl⟩:=r
  cases(show T="int" from ty)
  exact⟨typeIs_int s i t,fun _ e=>nomatch e⟩
 | ref p=>
  cases r
  rcases ty with⟨rfl,xs,hq⟩|⟨rfl,o,hk,hc,hd⟩|⟨rfl,hk⟩|⟨rfl,S,n,hk⟩
  ·obtain⟨its,_,pl,_⟩:=I.list hq
   refine⟨pl.isList.typeIs,fun a e=>?_⟩
   cases e
   obtain⟨o,n,e,c,hd,_⟩:=pl
   exact⟨o,e,hd⟩
  ·refine⟨⟨o,I.kIn p o hk,hc⟩,fun a e=>?_⟩
   cases e
   exact⟨o,I.kIn _ o hk,hd⟩
  ·have z:∃o,s.heap.get? p=some o/\o.ExactDict:=by
    rcases hk with⟨kvs,hk⟩|⟨kvs,hk⟩
    ·obtain⟨_,_,_,_,o,_,_,e,ex,_⟩:=(show ObjOk X.prog X.w H s.heap p (.dK kvs)from zNy I.hok hk)
     exact⟨o,e,ex⟩
    ·obtain⟨_,_,_,_,o,_,_,e,ex,_⟩:=(show ObjOk X.prog X.w H s.heap p (.dT kvs)from zNy I.hok hk)
     exact⟨o,e,ex⟩
   obtain⟨o,e,ex⟩:=z
   refine⟨⟨o,e,ex.1⟩,fun a e2=>?_⟩
   cases e2
   exact⟨o,e,ex.2.1⟩
  ·obtain⟨o,_,_,_,e,ex,_⟩:=I.hok p _ hk
   refine⟨⟨o,e,ex.1⟩,fun a e2=>?_⟩
   cases e2
   exact⟨o,e,ex.2.1⟩
 | _=>exact False.elim ty
noncomputable def tBM0 (K:PySem.W.Frag) (T:String) (r:V->List V->Hp->VK->Prop) (to:TE):TE:=fun σ H Q=>to σ H fun x H1=>tyV K T x H1/\r x [] H1 Q
noncomputable def tBM (K:PySem.W.Frag) (T:String) (r:V->List V->Hp->VK->Prop) (to:TE) (t:TA):TE:=fun σ H Q=>to σ H fun x H1=>tyV K T x H1/\t σ H1 fun xs H2=>r x xs H2 Q
variable {o e:Expr}{es:List Expr}{to:TE}{t:TA}{name:Str}{apos cpos:Pos}{T id:String}{r:V->List V->Hp->VK->Prop}
theorem zX0 (pa:PlainAttrs T) (slot:Slot T name id) (hty:typeOf (.builtin id)=pure (.type "method_descriptor")) (hm:MtR X id r) (ho:PE X o to)
  (hbase:attributeBase o name X.env (eval o X.env)=eval o X.env:=by rfl) (hline:(apos.endLine == cpos.line)=true:=by rfl):PE X (.Call (.Attribute o name apos) [] [] cpos) (tBM0 X.K T r to):=by
 intro pins s σ H Q I h
 refine wpAny_Call_method0_late hbase hline (thn (ho pins s σ H _ I h) fun v s1 hq1=>?_)
 obtain⟨x,H1,I1,r1,ty,q1⟩:=hq1
 obtain⟨h1,h2⟩:=zQ7 I1 r1 ty
 exact⟨T,id,pa,slot,hty,h1,h2,Calls.callWith_builtin rfl (PySem.evalArgs_none (hm pins s1 σ H1 x [] v [] Q I1 r1 .nil q1))⟩
theorem yAc (pa:PlainAttrs T) (slot:Slot T name id) (hty:typeOf (.builtin id)=pure (.type "method_descriptor")) (hm:MtR X id r) (ho:PE X o to) (ha:PA X (e::es) t)
  (hbase:attributeBase o name X.env (eval o X.env)=eval o X.env:=by rfl)
  (hfew:((backTo cpos (starEach (e::es) X.env)).all (fun x=>!x.1) && (backToKw cpos (keywordEach [] X.env)).all (fun x=>x.1.isSome)
   && decide ((e::es).length+([]:List Keyword).length+(if([]:List Keyword).isEmpty then 0 else 1)<30))=true:=by rfl)
  (hline:(apos.endLine == cpos.line)=true:=by rfl) (hs:starEach (e::es) X.env=(false,eval e X.env)::starEach es X.env:=by rfl) (hplain:(backTo cpos (starEach es X.env)).any (·.1)=false:=by rfl):
  PE X (.Call (.Attribute o name apos) (e::es) [] cpos) (tBM X.K T r to t):=by
 intro pins s σ H Q I h
 refine wpAny_Call_method_late hbase hfew hline rfl (thn (ho pins s σ H _ I h) fun v s1 hq1=>?_)
 obtain⟨x,H1,I1,r1,ty,q1⟩:=hq1
 obtain⟨h1,h2⟩:=zQ7 I1 r1 ty
 refine⟨T,id,pa,slot,hty,h1,h2,?_⟩
 have hA:=ha cpos pins s1 σ H1 _ I1 q1
 rw[hs]at hA ⊢
 refine Calls.callWith_builtin (by show(false || (backTo cpos (starEach es X.env)).any (·.1))=false;rw[hplain] <;> rfl) (Calls.evalArgs_plain ?_)
 exact thn hA fun us s2 hz2=>by obtain⟨vs,H2,I2,r2,q2⟩:=hz2;exact hm pins s2 σ H2 x vs v us Q I2 r1 r2 q2
end
end L2
namespace L2
open PySem PySem.Spec PyProof.Rows
noncomputable def MtM (X:Cx) (id:String) (r:V->List V->Hp->VK->Prop):Prop:=
 ∀(pins:List (Addr × Obj)) (s:Shared) (σ:St) (H:Hp) (x:V) (xs:List V) (v:Value) (us:List Value) (Q:VK),Inv X pins σ H s->RelV x v->Vals xs us->r x xs H Q->
  wpAny (model X.prog X.w) X.A (call (.builtin id) (v::us)) (EP X pins σ Q) X.xe s
theorem Vals.one:∀{x:V}{us:List Value},Vals [x] us->∃u,us=[u]/\RelV x u
 | _,_,.cons r .nil=>⟨_,rfl,r⟩
theorem Vals.zero:∀{us:List Value},Vals [] us->us=[]
 | _,.nil=>rfl
theorem Vals.dropLast {xs:List V}{us:List Value}(h:Vals xs us):Vals xs.dropLast us.dropLast:=by
 induction h with
 | nil=>exact .nil
 | cons r t ih=>
  cases t with
  | nil=>exact .nil
  | cons q t'=>exact .cons r ih
theorem Vals.reverse {xs:List V}{us:List Value}(h:Vals xs us):Vals xs.reverse us.reverse:=by
 induction h with
 | nil=>exact .nil
 | cons r t ih=>rw[List.reverse_cons,List.reverse_cons];exact Vals.append ih (.cons r .nil)
theorem zJi {α:Type}(l:List α):l.eraseIdx (l.length-1)=l.dropLast:=by
 induction l with
 | nil=>rfl
 | cons a r ih=>
  cases r with
  | nil=>rfl
  | cons b r=>
   have e:(a::b::r).length-1=((b::r).length-1)+1:=by
    have h1:(a::b::r).length=r.length+2:=rfl
    have h2:(b::r).length=r.length+1:=rfl
    lia
   rw[e,List.eraseIdx_cons_succ,ih]
   all_goals rfl
section
variable {X:Cx}{pins:List (Addr × Obj)}{σ:St}{H:Hp}{s:Shared}{l b:Addr}{xs ys zs:List V}
theorem Inv.lset {its its':List Value}{n:Nat}{f:Array Value->Array Value}{t':Nat}(I:Inv X pins σ H s) (hH:H l=some (.lst xs))
  (e:s.heap.get? l=some { cls:=.type "list",data:=.seq its.toArray n }) (hf:f its.toArray=its'.toArray) (hv:Vals ys its') (hz:ys.length<=sizeLine):
  Inv X pins σ (upd H l (.lst ys)) { s with heap:=s.heap.update l (Obj.mapSeq f),toks:=t' }:=by
 have q:=PySem.IsL.update e f
 rw[hf]at q
 refine I.write (x:=l) (e:=l) (by rw[hH];exact trivial) (.inl rfl) (fun b' u hb hu=>(vt s.heap (Obj.mapSeq f) (xr hb)).trans hu) ⟨_,q⟩ ?_
 exact⟨hz,its',_,hv,q⟩
theorem Inv.lnew {its:List Value}{t':Nat}(I:Inv X pins σ H s) (hv:Vals ys its) (hz:ys.length<=sizeLine):
  Inv X pins σ (upd H s.heap.objs.size (.lst ys)) { s with heap:=s.heap.push { cls:=.type "list",data:=.seq its.toArray },toks:=t' }:=
 I.laid (fun _ _ q=>xi _ q) (xh _) ⟨hz,its,0,hv,xw _ rfl⟩
theorem Inv.fresh (I:Inv X pins σ H s):H s.heap.objs.size=none:=I.hok.fresh (xh _)
theorem Inv.lstM (I:Inv X pins σ H s) (hH:H l=some (.lst xs)):xs.length<=sizeLine/\∃(its:List Value) (n:Nat),Vals xs its/\xs.length=its.length/\s.heap.get? l=some { cls:=.type "list",data:=.seq its.toArray n }:=by
 obtain⟨z,its,n,r,e⟩:=I.hok l _ hH
 exact⟨z,its,n,r,r.length,e⟩
end
section
variable {X:Cx}
noncomputable def zS4:V->List V->Hp->VK->Prop:=fun x vs H Q=>∃l xs y,x=.ref l/\vs=[y]/\H l=some (.lst xs)/\xs.length<sizeLine/\Q .non (upd H l (.lst (xs++[y])))
theorem zLl:MtM X "list.append" zS4:=by
 intro pins s σ H x vs v us Q I rx rv h
 obtain⟨l,xs,y,rfl,rfl,hH,hz,q⟩:=h
 cases rx
 obtain⟨u,rfl,ru⟩:=rv.one
 obtain⟨z,its,n,r,hl,e⟩:=I.lstM hH
 refine call_meets F.slot_list_append ⟨_,e,rfl⟩ F.entry_list_append (F.args_list_append_2 _ _) (PySem.list_append l its.toArray n u (by rw[xu];lia)) ⟨e,?_⟩
 refine⟨.non,_,I.lset (its':=its++[u]) hH e (by simp) (r.append (.cons ru .nil)) ?_,rfl,q⟩
 rw[xE,List.length_singleton]
 lia
noncomputable def rPop:V->List V->Hp->VK->Prop:=fun x vs H Q=>∃l xs y,x=.ref l/\vs=[]/\H l=some (.lst xs)/\xs[xs.length-1]?=some y/\Q y (upd H l (.lst xs.dropLast))
theorem zXj:MtM X "list.pop" rPop:=by
 intro pins s σ H x vs v us Q I rx rv h
 obtain⟨l,xs,y,rfl,rfl,hH,hy,q⟩:=h
 cases rx
 have hus:=rv.zero
 subst hus
 obtain⟨z,its,n,r,hl,e⟩:=I.lstM hH
 obtain⟨u,hu,ru⟩:=r.get hy
 have hy':its.toArray[its.toArray.size-1]?=some u:=by
  show its.toArray[its.length-1]?=some u
  rw[<- uH,<- hl]
  exact hu
 refine call_meets F.slot_list_pop ⟨_,e,rfl⟩ F.entry_list_pop (F.args_list_pop_1 _) (MeetsSeq.list_pop_last l its.toArray n u hy' (by rw[xu];lia)) ⟨e,?_⟩
 refine⟨y,_,I.lset (its':=its.dropLast) hH e ?_ r.dropLast ?_,ru,q⟩
 ·show its.toArray.eraseIdxIfInBounds (its.toArray.size-1)=its.dropLast.toArray
  rw[xu,List.eraseIdxIfInBounds_toArray,zJi]
 ·rw[List.length_dropLast]
  lia
theorem len_rep {α:Type}(xs:List α) (k:Nat):(List.replicate k xs).flatten.length=k*xs.length:=by
 induction k with
 | zero=>simp
 | succ k ih=>rw[uI,List.flatten_cons,xE,ih,Nat.succ_mul,Nat.add_comm]
end
end L2
namespace Att
open PySem PySem.W PySem.Calls PyProof.Rows
theorem zD6 {P:Params}{h:Heap}:∀(ns:List Int) (vs:List Value),WellAll P h vs (ns.map WData.int)->IntsAre vs ns:=by
 intro ns
 induction ns with
 | nil=>
  intro vs w
  rw[vB]at w
  cases w
  exact .nil
 | cons n ns ih=>
  intro vs w
  rw[xx]at w
  cases w with
  | cons a b=>
   cases a
   exact .cons _ _ (ih _ b)
theorem zKh {l:OpenLaw}{n:Nat}(hn:l.most=some n) {P:Params}{h:Heap}{args:List WData}{vals:List Value}
  (hpre:l.row.toRowW.claim.pre args=true) (hwl:WellAll P h vals args):
  ∃a vs ns,vals=[Value.ref a]/\args=[WData.list (ns.map WData.int)]/\h.get? a=some { cls:=.type "list",data:=.seq vs.toArray }/\IntsAre vs ns/\ns.length<=n:=by
 have hsh:WShape.hasAll [] args [.list .int]=true:=(pre_splitW hpre).1
 have hc:l.pre.holds [] { args:=args }=true:=(pre_splitW hpre).2
 obtain⟨d,r,rfl,h1,h2⟩:=hasAllW_cons hsh
 obtain rfl:=hasAllW_nil h2
 obtain⟨xs,rfl,h3⟩:=hasW_list h1
 obtain⟨ns,rfl⟩:=items_int h3
 have hlen:ns.length<=n:=by
  unfold OpenLaw.pre at hc
  have h4:(WTm.not (.lt (.lit (.int (n:Int))) (.len (.arg 0)))).holds [] { args:=[.list (ns.map .int)] }=true:=by
   have h4:=(holds_andW hc).1
   rw[hn]at h4
   exact h4
  have h5:=condW_of h4 (w_not (w_lt w_lit (w_len_list (w_arg rfl))))
  rw[xq]at h5
  refine Nat.le_of_not_lt fun q=>?_
  have q':(n:Int)<((ns.length:Nat):Int):=by nofun
  first
   | (rw[xo q']at h5;exact absurd h5 (by decide))
   | (simp at h5;lia)
 cases hwl with
 | cons w1 w2=>
  cases w2
  cases w1 with
  | list ho hall=>exact⟨_,_,ns,rfl,rfl,ho,zD6 ns _ hall,hlen⟩
theorem zKu (l:OpenLaw) (args:List WData):l.row.toRowW.claim.post args (.bool true) args=true:=
 postW_of (r:=l.row.toRowW) (X:=(true == true))
  (show WShape.has [] (.bool true) .bool=true by first|rfl|decide|simp[WShape.has,WShape.arms,WShape.armsAll])
  (show(WTm.eq .res (.lit (.bool true))).value [] { args:=args,res:=some (.bool true),after:=args }=some (.bool (true == true))from w_eq_bool (w_res rfl) w_lit) rfl
theorem attach_call {l:OpenLaw}{n:Nat}{q:Program}{loose:List Str}{XP:(Str->Option Value)->Heap->Prop}{YP:World->Heap->Prop}{d:DefRec}
  (hn:l.most=some n) (hdf:d.params.defaults=[])
  (call:∀(w:World) (s₀ s₁:Shared) (mg mb:Str->Option Value) (fa:Addr) (o:Obj) (pm cd doc:Value) (a:Addr) (vs:List Value) (ns:List Int),
   Ground q loose [] XP w s₀ mg mb s₁.heap->YP w s₁.heap->
   s₁.heap.get? fa=some o->o.data=.func (docDef d.name d.params d.body d.scope pm cd doc)->s₁.heap.CodeRec cd d.name->mg d.name=some (.ref fa)->
   s₁.heap.get? a=some { cls:=.type "list",data:=.seq vs.toArray }->IntsAre vs ns->ns.length<=n->s₁.gens=#[]->
   codeAny (model l.prog w) callerA (.call (.ref fa) ⟨[.ref a],[]⟩) (fun r s'=>r=.ok (.ret (.bool true))/\OldK s₁.heap s'.heap/\s'.os=s₁.os/\AllBare s'.gens) s₁):
  WalkO q loose XP YP l.row.toRowW d [] (fun f vs=>PySem.call f vs):=by
 intro w s₀ s₁ mg mb G Y fa o pm cd doc dV kV ho hd hcd hD hmg hg args vals as hpre hlay hrd hwl hlo
 obtain rfl:dV=.none:=Dflts.none hD hdf
 obtain rfl:kV=.none:=Dflts.noKw hD
 obtain⟨a,vs,ns,rfl,rfl,hobj,hints,hlen⟩:=zKh hn hpre hwl
 refine enter_call (vR (call w s₀ s₁ mg mb fa o pm cd doc a vs ns G Y ho (fd_plain hd) hcd hmg hobj hints hlen hg) fun r s' hq=>?_)
 obtain⟨rfl,h2,h3,h4⟩:=hq
 exact⟨.inl ⟨.bool true,.bool true,[],rfl,fun _=>rfl,.bool true,zKu l _,fun _=>⟨List.Pairwise.nil,fun _ hm=>(nomatch hm)⟩⟩,h2,h3,h4⟩
end Att
namespace L2
open PySem PySem.Spec PyProof.Rows
theorem zF8:∀{vs:List Value}{ns:List Int},IntsAre vs ns->Vals (ns.map V.int) vs
 | _,_,.nil=>.nil
 | _,_,.cons n t h=>.cons ⟨t,rfl⟩ (zF8 h)
noncomputable def Only (H:Hp):Prop:=∀b,H b=none\/∃o xs,H b=some (.frz o (.lst xs))
theorem law_call {P:Program}{w:World}{K:PySem.W.Frag}{mg mb:Str->Option Value}{CX:CXT}{k:Nat}{fa a:Addr}{fd:FuncData}{x:Str}{sp:Sp}{s₁:Shared}{vs:List Value}{ns:List Int}
  (KX:K.In s₁.heap) (hns:s₁.heap.Ns mainGlobals mg) (hb:s₁.heap.Ns builtinsNs mb) (hbb:∀x:Str,x≠"__name__"->mb x=bootBuiltins x) (hlim:s₁.heap.NoLimit) (hg:s₁.gens=#[])
  (ha:s₁.heap.get? a=some { cls:=.type "list",data:=.seq vs.toArray }) (hi:IntsAre vs ns) (hl:ns.length<=sizeLine) (hr:Room k callerA)
  (F:∀base:Heap,K.In base->base.Ns mainGlobals mg->FnOk P w K mg base CX k fa fd [x] sp) (hbind:∀(s:Shared) (u:Value),BindsTo s fd ⟨[u],[]⟩ [(x,u)])
  (hsp:∀H:Hp,Only H->SqL K H a (ns.map V.int)->sp [.ref a] H (fun v _=>v=.bl true) fun _ _ _=>False)
  (hCX:∀H e s',CX [] H s₁ (fun _ _ _=>False) e s'->False):
  codeAny (model P w) callerA (.call (.ref fa) ⟨[.ref a],[]⟩) (fun r s'=>r=.ok (.ret (.bool true))/\OldK s₁.heap s'.heap/\s'.os=s₁.os/\AllBare s'.gens) s₁:=by
 have rv:=zF8 hi
 have lenV:=hi.length
 -- from an abstract heap in which nothing but the script may be tracked
 have core:∀H:Hp,Only H->SqL K H a (ns.map V.int)->HOk P w H s₁.heap->(∀b,H b≠none->b=a)->(H a≠none->K.lookup a=none)->
   codeAny (model P w) callerA (.call (.ref fa) ⟨[.ref a],[]⟩) (fun r s'=>r=.ok (.ret (.bool true))/\OldK s₁.heap s'.heap/\s'.os=s₁.os/\AllBare s'.gens) s₁:=by
  intro H hO hS hok hA hK
  have zDb:∀{b:Addr}{o:Obj},s₁.heap.get? b=some o->H b=none->(hidT s₁.heap H).get? b=some o:=fun e n=>zPd e n
  have noA:∀{b:Addr}{o:Obj}{es:Array DictEntry}{ep:Nat},s₁.heap.get? b=some o->o.data=.dict es ep->H b=none:=fun {b o es ep} e d=>by
   cases q:H b with
   | none=>rfl
   | some u=>
    have e':b=a:=hA b (by rw[q];simp)
    subst e'
    rw[ha]at e;cases e
    have d':Data.seq vs.toArray _=Data.dict es ep:=d
    cases d'
  have nsK:∀{b:Addr}{m:Str->Option Value},s₁.heap.Ns b m->(hidT s₁.heap H).Ns b m:=fun {b m} ⟨o,es,ep,e,d,r⟩=>⟨o,es,ep,zDb e (noA e d),d,r⟩
  have hKb:K.In (hidT s₁.heap H):=fun b o e=>zDb (KX b o e) (by
   cases q:H b with
   | none=>rfl
   | some u=>
    have e':b=a:=hA b (by rw[q];simp)
    subst e'
    rw[hK (by rw[q];simp)]at e;cases e)
  have hM:Mod K mg (hidT s₁.heap H):=⟨hKb,nsK hns,⟨mb,nsK hb,hbb⟩,let ⟨mc,h1,h2⟩:=hlim;⟨mc,nsK h1,h2⟩⟩
  have e0:Env0 P w K mg (hidT s₁.heap H) callerA [] s₁ H:=⟨rfl,hM,fun b o e=>zT9 e,Nat.le_of_eq (zM3 _ _),trivial,fun b hb=>absurd (show b∈([]:List Addr)from hb) (by simp),hok,.of_eq hg,rfl⟩
  refine vR ((F _ hKb (nsK hns)).run callerA [] s₁ H ⟨[.ref a],[]⟩ [.ref a] [.ref a] _ _ hr e0 (hbind s₁ (.ref a)) (.cons rfl .nil) (hsp H hO hS)) fun r s' h=>?_
  cases r with
  | error e=>exact(hCX H e s' h).elim
  | ok fl=>
   cases fl with
   | next=>exact False.elim h
   | brk=>exact False.elim h
   | cont=>exact False.elim h
   | ret u=>
    obtain⟨v,H',os,bare,un,hok',r',q⟩:=h
    have q':v=.bl true:=q
    subst q'
    obtain rfl:u=Value.bool true:=r'
    refine⟨rfl,OldK.of_keep fun b o e=>?_,os,bare⟩
    cases q:H b with
    | none=>exact un.keep b o e q (by intro z;exact absurd (show b∈([]:List Addr)from z) (by simp)) (by simp)
    | some u=>
     rcases hO b with z|⟨ob,xs,z⟩
     ·rw[q]at z;cases z
     ·have z2:=un.frzs b ob _ z
      obtain⟨e1,_⟩:=hok b _ z
      obtain⟨e2,_⟩:=hok' b _ z2
      rw[e]at e1;cases e1
      exact e2
 cases hk:K.lookup a with
 | some o=>
  -- the script is one of the module's own objects
  have e:=KX a o hk
  rw[ha]at e
  cases e
  refine core (fun _=>none) (fun _=>.inl rfl) (.inr ⟨_,vs.toArray,_,hk,rfl,rfl,rfl,by rw[xu,lenV];exact hl,by simpa using rv⟩) (fun b u z=>by have z':(none:Option HO)=some u:=z;cases z') (fun b z=>absurd rfl z) fun z=>absurd rfl z
 | none=>
  refine core (fun b=>if b=a then some (.frz { cls:=.type "list",data:=.seq vs.toArray } (.lst (ns.map V.int)))else none) (fun b=>?_) (.inl (.inr ⟨{ cls:=.type "list",data:=.seq vs.toArray },xc rfl⟩)) (fun b u z=>?_) (fun b z=>?_) fun _=>hk
  ·by_cases hb:b=a
   ·exact .inr ⟨_,_,xc hb⟩
   ·exact .inl (xf hb)
  ·by_cases hb:b=a
   ·have z':=(xc hb).symm.trans z
    cases z'
    subst hb
    exact⟨ha,by rw[xq];exact hl,vs,_,rv,ha⟩
   ·have z':=(xf hb).symm.trans z
    cases z'
  ·by_cases hb:b=a
   ·exact hb
   ·exact absurd (xf hb) z
end L2
namespace L2
open PySem PySem.Spec PyProof.Rows
theorem walk_of {l:PySem.W.OpenLaw}{n k:Nat}{q:Program}{loose:List Str}{XP:(Str->Option Value)->Heap->Prop}{YP:World->Heap->Prop}{d:DefRec}{K:Params->PySem.W.Frag}{CX:World->CXT}{sp:World->Sp}{x:Str}
  (hn:l.most=some n) (hn2:n<=sizeLine) (hdf:d.params.defaults=[]) (hr:Room k callerA)
  (hY:∀(w:World) (h:Heap),YP w h->(K w.params).In h)
  (F:∀(w:World) (mg:Str->Option Value) (fa:Addr) (h:Heap),(K w.params).In h->h.Ns mainGlobals mg->mg d.name=some (.ref fa)->
   ∃fd:FuncData,(∀(s:Shared) (u:Value),BindsTo s fd ⟨[u],[]⟩ [(x,u)]) /\
    ∀base:Heap,(K w.params).In base->base.Ns mainGlobals mg->FnOk l.prog w (K w.params) mg base (CX w) k fa fd [x] (sp w))
  (hsp:∀(w:World) (H:Hp) (a:Addr) (ns:List Int),ns.length<=n->Only H->SqL (K w.params) H a (ns.map V.int)->sp w [.ref a] H (fun v _=>v=.bl true) fun _ _ _=>False)
  (hCX:∀(w:World) (H:Hp) (s:Shared) (e:Value) (s':Shared),CX w [] H s (fun _ _ _=>False) e s'->False):
  PySem.W.WalkO q loose XP YP l.row.toRowW d [] (fun f vs=>PySem.call f vs):=by
 refine Att.attach_call hn hdf fun w s₀ s₁ mg mb fa o pm cd doc a vs ns G Y ho hd hcd hmg hobj hints hlen hg=>?_
 have KX:=hY w _ Y
 obtain⟨fd,hb,hF⟩:=F w mg fa _ KX G.T.g hmg
 exact law_call KX G.T.g G.T.b G.T.builtins G.T.nolimit hg hobj hints (xp hlen hn2) hr hF hb (fun H hO hS=>hsp w H a ns hlen hO hS) fun H e s'=>hCX w H s₁ e s'
end L2
namespace L2
open PySem PySem.Spec PyProof.Rows
noncomputable def zAx (s:Stmt):Arguments:=match s with
 | .FunctionDef _ a _ _ _ _ _ _ _ _=>a
 | _=>{ posonlyargs:=[],args:=[],vararg:=none,kwonlyargs:=[],kw_defaults:=[],kwarg:=none,defaults:=[] }
noncomputable def zAa (s:Stmt):List Stmt:=match s with
 | .FunctionDef _ _ b _ _ _ _ _ _ _=>b
 | _=>[]
noncomputable def zA1 (s:Stmt):Scope:=match s with
 | .FunctionDef _ _ _ _ _ _ sc _ _ _=>sc
 | _=>{ kind:=.function,names:=[],isGenerator:=false,isCoroutine:=false }
noncomputable abbrev CX0:CXT:=fun _ _ _ _ _ _=>False
noncomputable abbrev E0:XK:=fun _ _ _=>False
theorem pass0 {X:Cx}:Passes CX0 X E0:=fun _ _ _ _ _ _ _ h=>h.elim
structure Fun (K:PySem.W.Frag) (x qual:Str) (st:Stmt) (f:Addr) (fd:FuncData):Prop where
 ex:∃(oc:Value) (od:Option Addr) (kV doc pm:Value) (an:Option Addr) (cdv ct:Value) (osl:Array (Option Value)),
  fd=PySem.W.fnOf x qual (zAx st) (zAa st) (zA1 st) .none kV doc pm an cdv ct/\K.lookup f=some ⟨oc,od,.func fd,osl⟩/\PySem.W.codeIn K cdv qual=true
 kp:PySem.W.keepIn K (.ref f)=true
section
variable {P:Program}{w:World}{K:PySem.W.Frag}{mg:Str->Option Value}{base:Heap}
theorem Fun.ok {x qual:Str}{st:Stmt}{f:Addr}{fd:FuncData}{N ps:List Str}{k:Nat}{sp:Sp}(F:Fun K x qual st f fd) (S:zBl N ps (zA1 st)) (len:∀vs H Q E,sp vs H Q E->vs.length=ps.length)
  (hbody:∀(cdv:Value) (A:Around) (outer:List Env) (s:Shared) (H:Hp) (vs:List V) (Q:VK) (E:XK),Room k (A.deeper (envOfC qual (zA1 st) s.heap.objs.size f cdv))->sp vs H Q E->
   ∃t,PSs (cxOf CX0 P w K mg base N qual (zA1 st) f cdv A outer s H E).nox (zAa st) t/\t { nx:=fun _ H'=>Q .non H',rt:=Q } (start N vs) H):FnOk P w K mg base CX0 (k+1) f fd ps sp:=by
 obtain⟨oc,od,kV,doc,pm,an,cdv,ct,osl,rfl,lk,hcd⟩:=F.ex
 refine zYa lk hcd S len fun A outer s H vs Q E hr hsp=>?_
 obtain⟨t,h,q⟩:=hbody cdv A outer s H vs Q E hr hsp
 exact⟨t,h.nox,q⟩
theorem Fun.binds {x qual:Str}{st:Stmt}{f:Addr}{fd:FuncData}{ps:List Str}(F:Fun K x qual st f fd)
  (h:∀(kV doc pm:Value) (an:Option Addr) (cdv ct:Value) (us:List Value),us.length=ps.length->bindArgs (PySem.W.fnOf x qual (zAx st) (zAa st) (zA1 st) .none kV doc pm an cdv ct) ⟨us,[]⟩=pure (ps.zip us)):Binds K fd ps []:=by
 obtain⟨oc,od,kV,doc,pm,an,cdv,ct,osl,rfl,lk,hcd⟩:=F.ex
 exact .all (h kV doc pm an cdv ct)
theorem zQy {x qual:Str}{st:Stmt}{f:Addr}{oc:Value}{od an:Option Addr}{osl:Array (Option Value)}{kV doc pm cdv ct:Value}(l:K.lookup f=some ⟨oc,od,.func (PySem.W.fnOf x qual (zAx st) (zAa st) (zA1 st) .none kV doc pm an cdv ct),osl⟩)
  (c:PySem.W.codeIn K cdv qual=true) (k:PySem.W.keepIn K (.ref f)=true):Fun K x qual st f (PySem.W.fnOf x qual (zAx st) (zAa st) (zA1 st) .none kV doc pm an cdv ct):=⟨⟨oc,od,kV,doc,pm,an,cdv,ct,osl,rfl,l,c⟩,k⟩
end
theorem yAs {A:Around}{k:Nat}(hr:Room k A):A.units+1<cLine:=uB (Nat.add_le_add_left (by decide:1<=64) _) hr.units
section
variable {X:Cx}
theorem pv (i:Nat) {x:Str}{pos:Pos}(hN:X.N[i]?=some x:=by rfl) (hv:Vis X.env.scope x:=by first|exact Or.inl rfl|exact Or.inr (Or.inl rfl)|exact Or.inr (Or.inr rfl)) (hd:(x == ("__debug__":Str))=false:=by decide)
  (hcd:(x == ("__classdict__":Str))=false:=by decide):PE X (.Name x pos) (tVar i):=zWo hN hv hd hcd
end
end L2
namespace L2
open PySem PySem.Spec PyProof.Rows
section
variable {prog:Program}{w:World}{A:Around}{R:Result->Shared->Prop}{s:Shared}
theorem zFu {elt target iter:Expr}{ifs:List Expr}{scope:Scope}{pos:Pos}{it acc:Value}{env:Env}(I:Nat->Shared->Prop)
  (turn:∀n s,I n s->wpAny (model prog w) A (pyNext it) (fun r s₁=>match r with
   | none=>R (.ok .next) s₁
   | some v=>wpAny (model prog w) A (letOwnedTupleGo target it v) (fun _ s₂=>wpAny (model prog w) A (assign target env v) (fun _ s₂=>
     wpAny (model prog w) A (forIn ifs true fun c r=>if r=true then do let ok <- isTrue c env (eval c env);pure (ForInStep.yield ok)else pure (ForInStep.yield r)) (fun ok s₃=>
      if ok=true then wpAny (model prog w) A (eval elt env) (fun x s₄=>
       wpAny (model prog w) A (call (.builtin "list.append") [acc,x]) (fun _ s₅=>∃m,m<n/\I m s₅) (fun _ _=>False) s₄) (fun _ _=>False) s₃
      else ∃m,m<n/\I m s₃) (fun _ _=>False) s₂) (fun _ _=>False) s₂) (fun _ _=>False) s₁) (fun _ _=>False) s)
  (n:Nat) (h:I n s):
  codeAny (model prog w) A (.compLoop (.ListComp elt [⟨target,iter,ifs,0⟩] scope pos) 0 it acc env) R s:=by
 refine codeAny_loop rfl I (fun n s hI=>?_) n h
 show wpAny _ A ((compTurn (.ListComp elt [⟨target,iter,ifs,0⟩] scope pos) 0 it acc env).onRaise (fun x=>do noteFrame x env;theTreesLotGoes x)) _ _ s
 refine wpAny_noted ?_
 rw[compTurn_list]
 refine xa (ua (xa (xJ (turn n s hI) (fun r s₁ h₁=>?_) fun _ _ h'=>h'.elim)))
 cases r with
 | none=>exact xg h₁
 | some v=>
  refine xa (xJ h₁ (fun _ s₁' h₁=>?_) fun _ _ h'=>h'.elim)
  refine xa (xJ h₁ (fun _ s₂ h₂=>xa (xJ h₂ (fun ok s₃ h₃=>?_) fun _ _ h'=>h'.elim)) fun _ _ h'=>h'.elim)
  cases ok with
  | false=>exact xg ⟨rfl,h₃⟩
  | true=>
   exact xa (xa (xJ h₃ (fun x s₄ h₄=>xa (xJ h₄ (fun _ s₅ h₅=>xg (xg ⟨rfl,h₅⟩)) fun _ _ h'=>h'.elim)) fun _ _ h'=>h'.elim))
end
theorem zJm {env:Env}:∀(names:List (Str × NameKind)) (cs:List (Str × Addr)),(∀y∈names,y.2=.free->∃c,env.cells.lookup y.1=some c)->∃cl:List (Str × Addr),
  (forIn names cs fun x r=>(match x,r with|(name,kind),cs=>if(kind == NameKind.free)=true then do let c <- cellOf env name;pure (ForInStep.yield ((name,c)::cs))else pure (ForInStep.yield cs)):Sem (List (Str × Addr)))=pure cl /\
  (∀x c,cl.lookup x=some c->cs.lookup x=some c\/env.cells.lookup x=some c)/\(∀x c,cs.lookup x=some c->∃c',cl.lookup x=some c')/\∀y∈names,y.2=.free->∃c,cl.lookup y.1=some c:=by
 intro names
 induction names with
 | nil=>intro cs _;exact⟨cs,rfl,fun _ _ h=>.inl h,fun x c h=>⟨c,h⟩,fun _ h=>nomatch h⟩
 | cons y r ih=>
  intro cs h
  obtain⟨n,k⟩:=y
  have hr:∀y∈r,y.2=.free->∃c,env.cells.lookup y.1=some c:=fun y hy=>h y (xX _ hy)
  by_cases hk:k=.free
  ·subst hk
   obtain⟨c,hc⟩:=h (n,.free) xN rfl
   obtain⟨cl,e,h1,h2,h3⟩:=ih ((n,c)::cs) hr
   refine⟨cl,?_,fun x d hx=>?_,fun x d hx=>?_,fun y hy hf=>?_⟩
   ·rw[uJ]
    have hcell:cellOf env n=(pure c:Sem Addr):=by simp only[cellOf,hc]
    simp only[beq_self_eq_true,xn,hcell]
    simpa using e
   ·rcases h1 x d hx with z|z
    ·rw[xU]at z
     by_cases hxn:(x == n)=true
     ·rw[hxn]at z;simp at z;subst z
      have:x=n:=by simpa using hxn
      subst this;exact .inr hc
     ·rw[uK]at hxn;rw[hxn]at z;exact .inl z
    ·exact .inr z
   ·by_cases hxn:(x == n)=true
    ·exact h2 x c (by rw[xU,hxn])
    ·rw[uK]at hxn
     exact h2 x d (by rw[xU,hxn];exact hx)
   ·rcases xk.mp hy with z|z
    ·subst z;exact h2 n c (by rw[xU];simp)
    ·exact h3 y z hf
  ·have hb:(k == NameKind.free)=false:=by simpa using hk
   obtain⟨cl,e,h1,h2,h3⟩:=ih cs hr
   refine⟨cl,?_,h1,h2,fun y hy hf=>?_⟩
   ·rw[uJ]
    simp only[hb,xP,xK]
    simpa using e
   ·rcases xk.mp hy with z|z
    ·subst z;exact absurd hf hk
    ·exact h3 y z hf
theorem zC8 {scope:Scope}{env:Env}(h:∀y∈scope.names,y.2=.free->∃c,env.cells.lookup y.1=some c):∃cl:List (Str × Addr),closureFor scope env=pure cl /\
  (∀x c,cl.lookup x=some c->env.cells.lookup x=some c)/\∀y∈scope.names,y.2=.free->∃c,cl.lookup y.1=some c:=by
 obtain⟨cl,e,h1,_,h3⟩:=zJm scope.names [] h
 refine⟨cl,?_,fun x c hx=>(h1 x c hx).elim (fun z=>nomatch z) id,h3⟩
 simp only[closureFor]
 rw[e]
 rfl
theorem zCh {scope:Scope}{env:Env}{x:Str}(h:(relabel scope env).names.lookup x=some .cell\/(relabel scope env).names.lookup x=some .free):∃y∈scope.names,y.1=x/\(y.2=.free\/y.2=.cell):=by
 have key:∀(l:List (Str × NameKind)),((l.map fun(n,k)=>if(k == NameKind.free && env.scope.kind == .function && env.kindOf n == some .cell)then(n,NameKind.cell)else(n,k)).lookup x=some .cell \/
   (l.map fun(n,k)=>if(k == NameKind.free && env.scope.kind == .function && env.kindOf n == some .cell)then(n,NameKind.cell)else(n,k)).lookup x=some .free)->∃y∈l,y.1=x/\(y.2=.free\/y.2=.cell):=by
  intro l
  induction l with
  | nil=>intro h;rcases h with h|h <;> simp at h
  | cons y r ih=>
   intro h
   obtain⟨n,k⟩:=y
   by_cases hb:(k == NameKind.free && env.scope.kind == .function && env.kindOf n == some .cell)=true
   ·have kf:k=.free:=by simp at hb;exact hb.1.1
    by_cases hx:(x == n)=true
    ·have:x=n:=by simpa using hx
     exact⟨(n,k),xN,this.symm,.inl kf⟩
    ·rw[uK]at hx
     simp only[xx,hb,xn,xU,hx]at h
     obtain⟨y,hy,z⟩:=ih h
     exact⟨y,xX _ hy,z⟩
   ·rw[uK]at hb
    by_cases hx:(x == n)=true
    ·have e:x=n:=by simpa using hx
     simp only[xx,hb,xU,hx,xP,xK]at h
     rcases h with h|h
     ·exact⟨(n,k),xN,e.symm,.inr (xD h)⟩
     ·exact⟨(n,k),xN,e.symm,.inl (xD h)⟩
    ·rw[uK]at hx
     simp only[xx,hb,xU,hx,xP,xK]at h
     obtain⟨y,hy,z⟩:=ih h
     exact⟨y,xX _ hy,z⟩
 exact key scope.names h
noncomputable def zA7 (X:Cx) (N:List Str) (scope:Scope) (cl:List (Str × Addr)) (C:Addr) (s:Shared) (H:Hp) (fp:List Addr):Cx where
 prog:=X.prog
 w:=X.w
 K:=X.K
 mg:=X.mg
 base:=X.base
 A:=X.A
 N:=N
 s₀:=s
 H₀:=H
 env:=compEnvC scope cl C X.env
 outer:=X.stack
 stack:=X.stack
 ex:=fp
 fn:=fun x=>scope.names.lookup x == some .cell
 calm:=X.calm
 pn:=[]
 xe:=fun _ _=>False
structure CompScope (X:Cx) (own fre:List Str) (ix:List Nat) (scope:Scope):Prop where
 kind:scope.kind=.function
 cell:∀y∈scope.names,y.2=.cell->scope.names.lookup y.1=some .cell
 loc:∀y∈scope.names,y.2=.local->scope.names.lookup y.1=some .local
 fr:∀y∈scope.names,y.2=.free->X.env.kindOf y.1=some .cell\/X.env.kindOf y.1=some .free
 len:fre.length=ix.length
 at_:∀(j:Nat) (i:Nat) (x:Str),fre[j]?=some x->ix[j]?=some i->X.N[i]?=some x/\(X.env.kindOf x=some .cell\/X.env.kindOf x=some .free)
 vis:∀x∈fre,(relabel scope X.env).names.lookup x=some .cell\/(relabel scope X.env).names.lookup x=some .free
 fno:∀x∈fre,scope.names.lookup x≠some .cell
noncomputable def zNw (scope sc:Scope):Scope:=
 { scope with names:=scope.names.map fun(n,k)=>if(k == .free && sc.kind == .function && sc.names.lookup n == some .cell)then(n,.cell)else(n,k) }
noncomputable def zB0 (o:Option NameKind):Bool:=o == some .cell || o == some .free
theorem zB6 {o:Option NameKind}(h:zB0 o=true):o=some .cell\/o=some .free:=by
 simpa[zB0]using h
noncomputable def zMs (sc:Scope) (N own fre:List Str) (ix:List Nat) (scope:Scope):Bool:=
 (scope.kind == .function) && (scope.names.all fun y=>y.2 != .cell || scope.names.lookup y.1 == some .cell) && (scope.names.all fun y=>y.2 != .local || scope.names.lookup y.1 == some .local) &&
 (scope.names.all fun y=>y.2 != .free || zB0 (sc.names.lookup y.1)) && (fre.length == ix.length) && ((fre.zip ix).all fun p=>N[p.2]? == some p.1 && zB0 (sc.names.lookup p.1)) &&
 (fre.all fun x=>zB0 ((zNw scope sc).names.lookup x)) && fre.all fun x=>scope.names.lookup x != some .cell
theorem CompScope.mk' {X:Cx}{N own fre:List Str}{ix:List Nat}{scope sc:Scope}(hs:X.env.scope=sc) (hN:X.N=N) (h:zMs sc N own fre ix scope=true):CompScope X own fre ix scope:=by
 simp only[zMs,xm]at h
 obtain⟨⟨⟨⟨⟨⟨⟨h1,h2⟩,h3⟩,h4⟩,h5⟩,h6⟩,h7⟩,h8⟩:=h
 subst hs
 subst hN
 refine⟨by simpa using h1,fun y hy hl=>?_,fun y hy hl=>?_,fun y hy hl=>?_,by simpa using h5,fun j i x e1 e2=>?_,fun x hx=>?_,fun x hx=>?_⟩
 ·have:=xO.mp h2 y hy
  rw[hl]at this
  simpa using this
 ·have:=xO.mp h3 y hy
  rw[hl]at this
  simpa using this
 ·have:=xO.mp h4 y hy
  rw[hl]at this
  exact zB6 (show zB0 (X.env.scope.names.lookup y.1)=true by simpa using this)
 ·have hz:(x,i)∈fre.zip ix:=by
   refine List.mem_iff_getElem?.mpr ⟨j,?_⟩
   rw[List.getElem?_zip_eq_some]
   exact⟨e1,e2⟩
  have:=xO.mp h6 (x,i) hz
  simp only[xm]at this
  exact⟨by simpa using this.1,zB6 this.2⟩
 ·exact zB6 (xO.mp h7 x hx)
 ·have:=xO.mp h8 x hx
  simpa using this
section
variable {M:Model}{A:Around}{E:Value->Shared->Prop}{s:Shared}
theorem zMv {lo:Nat}:∀(names:List (Str × NameKind)) (n:Nat) (acc:List (Str × Addr)) (x:Str) (c:Addr),lo<=n->((x,NameKind.cell)∈names\/∀c,acc.lookup x=some c->lo<=c)->(cellsFrom n names acc).lookup x=some c->lo<=c
 | [],_,_,_,_,_,h,e=>h.elim (fun z=>nomatch z) fun z=>z _ e
 | (m,k)::r,n,acc,x,c,hn,h,e=>by
  unfold cellsFrom at e
  split at e
  ·refine zMv r (n+1) _ x c (by nofun) ?_ e
   by_cases hx:x=m
   ·refine .inr fun c' q=>?_
    rw[xU,show(x == m)=true by rw[hx];exact beq_self_eq_true m]at q
    cases q;exact hn
   ·have hb:(x == m)=false:=by simpa using hx
    rcases h with h|h
    ·rcases xk.mp h with z|z
     ·exact absurd (congrArg Prod.fst z) hx
     ·exact .inl z
    ·exact .inr fun c' q=>h c' (by rw[xU,hb]at q;exact q)
  ·rename_i hk
   refine zMv r n acc x c hn ?_ e
   rcases h with h|h
   ·rcases xk.mp h with z|z
    ·cases z;exact absurd rfl hk
    ·exact .inl z
   ·exact .inr h
theorem zMw:∀(names:List (Str × NameKind)) (n:Nat) (acc:List (Str × Addr)) (x:Str),(∀y∈names,y.1=x->y.2≠.cell)->(cellsFrom n names acc).lookup x=acc.lookup x
 | [],_,_,_,_=>rfl
 | (m,k)::r,n,acc,x,h=>by
  unfold cellsFrom
  split
  ·rename_i hk
   rw[zMw r _ _ x fun y hy=>h y (xX _ hy),xU]
   have hx:(x == m)=false:=by
    cases q:x == m with
    | false=>rfl
    | true=>exact absurd (by simpa using hk) (h (m,k) xN (by simpa using(xQ.mp q).symm))
   rw[hx]
  ·exact zMw r n acc x fun y hy=>h y (xX _ hy)
theorem zMx:∀(names:List (Str × NameKind)) (n:Nat) (acc:List (Str × Addr)),(∀x c,acc.lookup x=some c->c<n)->(∀x y c,acc.lookup x=some c->acc.lookup y=some c->x=y)->
  ∀x y c,(cellsFrom n names acc).lookup x=some c->(cellsFrom n names acc).lookup y=some c->x=y
 | [],_,_,_,h=>h
 | (m,k)::r,n,acc,hl,h=>by
  unfold cellsFrom
  split
  ·refine zMx r (n+1) _ (fun x c e=>?_) fun x y c e1 e2=>?_
   ·rw[xU]at e
    cases q:x == m with
    | true=>rw[q]at e;cases e;exact Nat.lt_succ_self _
    | false=>rw[q]at e;exact uL (hl x c e)
   ·rw[xU]at e1 e2
    cases q:x == m with
    | true=>
     cases q':y == m with
     | true=>rw[xQ.mp q,xQ.mp q']
     | false=>rw[q]at e1;rw[q']at e2;cases e1;exact absurd (hl y _ e2) (x5 _)
    | false=>
     cases q':y == m with
     | true=>rw[q]at e1;rw[q']at e2;cases e2;exact absurd (hl x _ e1) (x5 _)
     | false=>rw[q]at e1;rw[q']at e2;exact h x y c e1 e2
  ·exact zMx r n acc hl h
theorem zF0:∀(names:List (Str × NameKind)) (n:Nat) (acc:List (Str × Addr)) (x:Str),((x,NameKind.cell)∈names\/∃c,acc.lookup x=some c)->∃c,(cellsFrom n names acc).lookup x=some c
 | [],_,_,_,h=>h.elim (fun z=>nomatch z) id
 | (m,k)::r,n,acc,x,h=>by
  unfold cellsFrom
  split
  ·refine zF0 r (n+1) _ x ?_
   cases q:x == m with
   | true=>exact .inr ⟨n,by rw[xU,q]⟩
   | false=>
    rcases h with h|⟨c,h⟩
    ·rcases xk.mp h with z|z
     ·rw[show x=m from congrArg Prod.fst z,beq_self_eq_true]at q;cases q
     ·exact .inl z
    ·exact .inr ⟨c,by rw[xU,q];exact h⟩
  ·rename_i hk
   refine zF0 r n acc x ?_
   rcases h with h|h
   ·rcases xk.mp h with z|z
    ·cases z;exact absurd rfl hk
    ·exact .inl z
   ·exact .inr h
theorem zGz:∀(names:List (Str × NameKind)) (h:Heap) (acc:List (Str × Addr)) (lo:Nat),lo<=h.objs.size->(∀x c,acc.lookup x=some c->lo<=c->h.IsCell c none)->∀x c,(cellsFrom h.objs.size names acc).lookup x=some c->lo<=c->(pushCells h names).IsCell c none
 | [],_,_,_,_,q=>q
 | (m,k)::r,h,acc,lo,hl,q=>by
  unfold cellsFrom pushCells
  split
  ·have:=zGz r (h.push { cls:=.type "cell",data:=.cell none }) ((m,h.objs.size)::acc) lo (by rw[vi];lia) fun x c e hc=>by
    rw[xU]at e
    cases z:x == m with
    | true=>rw[z]at e;cases e;exact⟨_,xw _ rfl,rfl⟩
    | false=>rw[z]at e;exact(q x c e hc).keeps fun b o e=>xi _ e
   rwa[vi]at this
  ·exact zGz r h acc lo hl q
theorem zLg {scope:Scope}{globals:Addr}{closure:List (Str × Addr)}{qual:Str}{around:Env}{Q:Env->Shared->Prop}
  (hQ:Q (newEnv scope s.heap.objs.size globals (cellsFrom (s.heap.objs.size+1) scope.names closure) qual none .none (some around) builtinsNs) { s with heap:=pushCells (s.heap.push { cls:=.type "dict",data:=.dict #[] }) scope.names }):
  wpAny M A (newFunctionEnv scope globals closure [] qual none .none (some around)) Q E s:=by
 simp only[newFunctionEnv,Option.isSome_some,xn]
 refine xa (wpAny_alloc ?_)
 refine xa (wpAny_layCells _ (fun name kind cells=>by cases hkc:kind == NameKind.cell <;> simp[hkc]) _ _ _ _ ?_)
 rw[show({ s with heap:=s.heap.push { cls:=.type "dict",data:=.dict #[] } }:Shared).heap.objs.size=s.heap.objs.size+1 from vi ..]
 simp only[List.forIn_nil]
 exact xa (xg (xg hQ))
end
structure ClOk (X:Cx) (scope:Scope) (C:Addr) (cl:List (Str × Addr)):Prop where
 inj:∀x y c,cl.lookup x=some c->cl.lookup y=some c->x=y
 own:∀x c,scope.names.lookup x=some .cell->cl.lookup x=some c->C<c
 old:∀x c,scope.names.lookup x≠some .cell->cl.lookup x=some c->X.env.cells.lookup x=some c
 has:∀y∈scope.names,(y.2=.free\/y.2=.cell)->∃c,cl.lookup y.1=some c
theorem ClOk.or {X:Cx}{scope:Scope}{C:Addr}{cl:List (Str × Addr)}(h:ClOk X scope C cl) {x:Str}{c:Addr}(e:cl.lookup x=some c):X.env.cells.lookup x=some c\/C<c:=by
 by_cases q:scope.names.lookup x=some .cell
 ·exact .inr (h.own x c q e)
 ·exact .inl (h.old x c q e)
noncomputable def zBw (own:List Str) (ix:List Nat) (σ:St):St:=own.map (fun _=>none)++ix.map fun i=>(σ[i]?).join
section
variable {X:Cx}{pins:List (Addr × Obj)}{σ:St}{H:Hp}{s:Shared}{own fre:List Str}{ix:List Nat}{scope:Scope}{cl:List (Str × Addr)}{fp:List Addr}{C:Addr}
theorem Inv.stkNo (I:Inv X pins σ H s) {b:Addr}(h:FpOk X pins H b):b ∉ frs X.stack:=fun hb=>
 (xk.mp (I.stkSub b hb)).elim h.2.1 h.2.2.1
theorem zUx (I:Inv X pins σ H s) (hf:∀b∈fp,FpOk X pins H b) (hlt:∀b∈fp,b<s.heap.objs.size) (S:CompScope X own fre ix scope) (hcl:ClOk X scope C cl)
  (hC:s.heap.objs.size<=C):(zA7 X (own++fre) scope cl C s H fp).Ok where
 mod:=I.ok.mod
 kind:=S.kind
 glob:=I.ok.glob
 blt:=I.ok.blt
 above:=hC
 inj:=hcl.inj
 has:=fun x hx=>by
  obtain⟨y,hy,e,k⟩:=zCh hx
  subst e
  exact hcl.has y hy k
 cab:=fun x c h e=>vm (uB hC (hcl.own x c (by simpa[zA7]using h) e))
 hd:=I.ok.hd
 frames:=I.ok.frames
 gds:=I.ok.gds
 stk:=.inl rfl
 exf:=fun b hb=>⟨xt (xv (hlt b hb) hC),fun x c e=>(hcl.or e).elim (fun e=>(hf b hb).2.2.2.2.1 x c e) fun z=>xr (xt (vF (xv (hlt b hb) hC) z))⟩
 bs:=I.bs
 bsz:=xp I.ok.bsz I.sz
 noex:=fun b o e hb=>by
  rcases(hf b hb).2.2.2.1 with z|z
  ·exact I.ok.noex b o e z
  ·exact absurd (xv (xj e) (xp I.ok.bsz z)) (x5 _)
 exfs:=fun b hb=>I.stkNo (hf b hb)
 funs:=I.stack
 frf:=I.stkFree
theorem zJk {h₁:Heap}{t':Nat}{m:Str->Option Value}(I:Inv X pins σ H s) (hf:∀b∈fp,FpOk X pins H b) (hlt:∀b∈fp,b<s.heap.objs.size) (S:CompScope X own fre ix scope) (hcl:ClOk X scope C cl) (hnew:∀x c,cl.lookup x=some c->C<c->h₁.IsCell c none)
  (hC:s.heap.objs.size<=C) (old:∀b o,s.heap.get? b=some o->h₁.get? b=some o) (hn:h₁.Ns C m):
  Inv (zA7 X (own++fre) scope cl C s H fp) [] (zBw own ix σ) H { s with heap:=h₁,toks:=t' } where
 ok:=zUx I hf hlt S hcl hC
 os:=rfl
 bare:=I.bare
 base:=Un.kept old
 loc:=by
  refine⟨m,hn,fun i x v e1 e2 e3=>?_⟩
  obtain⟨m0,hn0,hl⟩:=I.loc
  have hi:own.length<=i:=by
   rcases vc i own.length with z|z
   ·rw[zBw,x6 (by simpa using z),vp]at e2
    cases q:own[i]? <;> rw[q]at e2 <;> simp at e2
   ·exact z
  have e1':(own++fre)[i]?=some x:=e1
  rw[vA hi]at e1'
  rw[zBw,vA (by simpa using hi),vp,xq]at e2
  cases q:ix[i-own.length]? with
  | none=>rw[q]at e2;simp at e2
  | some j=>
   rw[q]at e2
   obtain⟨hN,hk⟩:=S.at_ _ _ _ e1' q
   have e2':(σ[j]?).join=some v:=by simpa using e2
   have e4:σ[j]?=some (some v):=by
    cases z:σ[j]? with
    | none=>rw[z]at e2';cases e2'
    | some o=>rw[z]at e2';exact congrArg some e2'
   obtain⟨u,r,lk⟩:=hl j x v hN e4 (hk.elim (fun z=>.inr (.inl z)) fun z=>.inr (.inr z))
   refine⟨u,r,.inr ?_⟩
   rcases lk with⟨k,_⟩|⟨k,c,ec,hc⟩
   ·rcases hk with z|z <;> · rw[k]at z;cases z
   ·have fin:((zA7 X (own++fre) scope cl C s H fp).env.kindOf x=some .cell\/(zA7 X (own++fre) scope cl C s H fp).env.kindOf x=some .free):=by
     exact S.vis x (uG e1')
    refine⟨fin,?_⟩
    obtain⟨y,hy,e,kf⟩:=zCh fin
    subst e
    obtain⟨c',hc'⟩:=hcl.has y hy kf
    have:=(hcl.old _ _ (S.fno _ (uG e1')) hc').symm.trans ec
    cases this
    exact⟨c,hc',by obtain⟨o,ho,hd⟩:=hc;exact⟨o,old _ _ ho,hd⟩⟩
 cell:=fun x c e=>by
  rcases hcl.or e with q|q
  ·obtain⟨v,o,ho,hd⟩:=I.cell x c q
   exact⟨v,o,old _ _ ho,hd⟩
  ·exact⟨none,hnew x c e q⟩
 free:=I.hok.fresh hC
 freeC:=fun x c e=>(hcl.or e).elim (fun q=>I.freeC x c q) fun q=>I.hok.fresh (vm (uB hC q))
 pin:=fun p hp=>nomatch hp
 hok:=I.hok.kept old
 len:=by simp[zBw,zA7,S.len]
end
noncomputable def PIfs (X:Cx) (ifs:List Expr) (t:TT):Prop:=
 ∀(pins:List (Addr × Obj)) (s:Shared) (σ:St) (H:Hp) (Q:Bool->Hp->Prop),Inv X pins σ H s->t σ H Q->
  wpAny (model X.prog X.w) X.A (forIn ifs true fun c r=>if r=true then do let ok <- isTrue c X.env (eval c X.env);pure (ForInStep.yield ok)else pure (ForInStep.yield r)) (TP X pins σ Q) X.xe s
noncomputable def tYes:TT:=fun _ H Q=>Q true H
theorem zOd {X:Cx}:PIfs X [] tYes:=fun pins s σ H Q I h=>xg ⟨H,I,h⟩
theorem zOc {X:Cx}{c:Expr}{t:TT}(hc:PT X c t):PIfs X [c] t:=by
 intro pins s σ H Q I h
 rw[uJ]
 simp only[xn]
 refine xa (xa (thn (hc pins s σ H Q I h) fun b s1 q=>xg ?_))
 simp only[List.forIn_nil]
 exact xg q
noncomputable def zQ9 (J:It) (g:TG) (tt:TT) (te:TE) (σc:St) (H1:Hp) (Qd:List V->Hp->Prop):Prop:=
 ∃W:Nat->Nat->List V->St->Hp->Prop,(∃m,W 0 m [] σc H1)/\∀i m ys σ H,W i m ys σ H->
  (J.stop i H/\Qd ys H)\/(J.go i H/\ys.length<sizeLine/\∃N:List V->St->Hp->Prop,(∀zs σ' H',N zs σ' H'->∃m',m'<m/\W (i+1) m' zs σ' H')/\∀x H',J.yld i H x H'->g x σ H' fun σ2 H2=>tt σ2 H2 fun c H3=>
   if c=true then te σ2 H3 fun y H4=>N (ys++[y]) σ2 H4 else N ys σ2 H3)
theorem HOk.adopt {P:Program}{w:World}{H:Hp}{h:Heap}{D:Addr}{o:HO}(x:HOk P w H h) (n:H D=none) (new:ObjOk P w (upd H D o) h D o):HOk P w (upd H D o) h:=fun b u e=>by
 by_cases hb:b=D
 ·subst hb
  rw[zA5]at e
  cases e
  exact new
 ·rw[zA2 hb]at e
  refine(x b u e).stay (fun c v _ q=>q) (fun c q=>?_) fun c xs q=>?_
  ·rw[zA2 (zA4 q n)];exact q
  ·rw[zA2 (zA4 q n)];exact q
theorem Un.adopt {fs ex:List Addr}{H H':Hp}{h h':Heap}{D:Addr}{o:HO}(u:Un fs ex H H' h h') (hD:h.objs.size<=D) (n:H' D=none):Un fs ex H (upd H' D o) h h' where
 keep:=u.keep
 slot:=u.slot
 free:=fun b ob e n' hx=>by rw[zA2 (xt (xv (xj e) hD))];exact u.free b ob e n' hx
 there:=u.there
 tups:=fun b xs e=>by have:=u.tups b xs e;rw[zA2 (zA4 this n)];exact this
 frzs:=fun b ob xs e=>by have:=u.frzs b ob xs e;rw[zA2 (zA4 this n)];exact this
 tbls:=fun b ps e=>by obtain⟨m,z⟩:=u.tbls b ps e;exact⟨m,by rw[zA2 (zA4 z n)];exact z⟩
section
variable {X:Cx}{pins:List (Addr × Obj)}{σ:St}{H2:Hp}{s2:Shared}{own fre:List Str}{ix:List Nat}{scope:Scope}{cl:List (Str × Addr)}{fp:List Addr}{C:Addr}
theorem zDx {tg elt iter:Expr}{ifs:List Expr}{pos:Pos}{J:It}{it:Addr}{tn:Nat->Heap->Prop}{g:TG}{tt:TT}{te:TE}{Qd:List V->Hp->Prop}{RR:Value->Addr->Result->Shared->Prop}{E:Value->Shared->Prop}{cl0:List (Str × Addr)}
  (I2:Inv X pins σ H2 s2) (T:Turn X.prog X.w X.K tg J fp it tn) (st2:tn 0 s2.heap) (f2:∀b∈fp,FpOk X pins H2 b) (hc:X.calm=true) (S:CompScope X own fre ix scope)
  (hcl0:∀x c,cl0.lookup x=some c->X.env.cells.lookup x=some c) (hcf0:∀y∈scope.names,y.2=.free->∃c,cl0.lookup y.1=some c)
  (hg:∀cl C,PG (zA7 X (own++fre) scope cl C s2 H2 fp) tg g) (hi:∀cl C,PIfs (zA7 X (own++fre) scope cl C s2 H2 fp) ifs tt) (he:∀cl C,PE (zA7 X (own++fre) scope cl C s2 H2 fp) elt te)
  (q:zQ9 J g tt te (zBw own ix σ) H2 Qd)
  (hRR:∀D C s' m' ys H',Inv X pins σ (upd H' D (.lst ys)) s'->s'.heap.Ns C m'->FpOk X pins (upd H' D (.lst ys)) C->H' D=none->Qd ys H'->RR (.ref D) C (.ok .next) s'):
  wpAny (model X.prog X.w) X.A (newList []) (fun acc s₃=>wpAny (model X.prog X.w) X.A (newFunctionEnv scope X.env.globals cl0 [] X.env.qual none .none (some X.env)) (fun cenv s₄=>
   codeAny (model X.prog X.w) X.A (.compStart (.ListComp elt [⟨tg,iter,ifs,0⟩] scope pos) 0 (.ref it) acc { cenv with scope:=relabel scope X.env }) (RR acc cenv.locals) s₄) E s₃) E s2:=by
 obtain⟨W,⟨m0,w0⟩,turn⟩:=q
 refine vf (zLg ?_)
 dsimp only
 generalize hHH:s2.heap.push { cls:=.type "list",dict:=none,data:=.seq ([]:List Value).toArray }=HH
 have hC:HH.objs.size=s2.heap.objs.size+1:=by rw[<- hHH,vi]
 have hns₁:(pushCells (HH.push { cls:=.type "dict",data:=.dict #[] }) scope.names).Ns HH.objs.size fun _=>none:=(Heap.Ns.new HH (.type "dict")).keeps (pushCells_keeps _ _)
 have hkp:∀b o,HH.get? b=some o->(pushCells (HH.push { cls:=.type "dict",data:=.dict #[] }) scope.names).get? b=some o:=fun b o e=>pushCells_keeps _ _ b o (xi _ e)
 have hltc:∀x c,cl0.lookup x=some c->c<HH.objs.size+1:=fun x c e=>by
  obtain⟨v,o,ho,_⟩:=I2.cell x c (hcl0 x c e)
  rw[hC]
  exact uL (uL (xj ho))
 have hnew:∀x c,(cellsFrom (HH.objs.size+1) scope.names cl0).lookup x=some c->HH.objs.size<c->(pushCells (HH.push { cls:=.type "dict",data:=.dict #[] }) scope.names).IsCell c none:=by
  have:=zGz scope.names (HH.push { cls:=.type "dict",data:=.dict #[] }) cl0 (HH.objs.size+1) (by rw[vi];exact xh _) fun x c e hc=>absurd (xv (hltc x c e) hc) (x5 _)
  rw[vi]at this
  exact fun x c e h=>this x c e h
 have hcl:ClOk X scope HH.objs.size (cellsFrom (HH.objs.size+1) scope.names cl0):={
  inj:=zMx _ _ _ hltc fun x y c e1 e2=>I2.ok.inj x y c (hcl0 x c e1) (hcl0 y c e2)
  own:=fun x c h e=>zMv _ _ _ x c (xh _) (.inl (uy h)) e
  old:=fun x c h e=>by
   rw[zMw _ _ _ x fun y hy ex ec=>h (by rw[<- ex];exact S.cell y hy ec)]at e
   exact hcl0 x c e
  has:=fun y hy hk=>by
   obtain⟨n,k⟩:=y
   rcases hk with hk|hk
   ·exact zF0 _ _ _ _ (.inr (hcf0 _ hy hk))
   ·dsimp only at hk
    subst hk
    exact zF0 _ _ _ _ (.inl hy) }
 generalize cellsFrom (HH.objs.size+1) scope.names cl0=cl at hnew hcl ⊢
 generalize pushCells (HH.push { cls:=.type "dict",data:=.dict #[] }) scope.names=h₁ at hns₁ hkp hnew ⊢
 generalize hDe:s2.heap.objs.size=D at *
 generalize hCe:HH.objs.size=C at *
 have hDC:D≠C:=by nofun
 have hDle:s2.heap.objs.size<=D:=by nofun
 have hCle:s2.heap.objs.size<=C:=by nofun
 have below:∀b o,s2.heap.get? b=some o->b≠C/\b≠D:=fun b o e=>⟨xt (xv (xj e) hCle),xt (xv (xj e) hDle)⟩
 have old:∀b o,s2.heap.get? b=some o->h₁.get? b=some o:=fun b o e=>hkp b o (hHH ▸ xi _ e)
 have hacc:=hkp _ _ (hHH ▸ hDe ▸ xw _ rfl)
 have fpo:=T.obj _ _ st2
 have hlt:∀b∈fp,b<s2.heap.objs.size:=fun b hb=>by obtain⟨o,e,_⟩:=fpo b hb;exact xj e
 have hDf:D ∉ fp:=fun hm=>absurd (xv (hlt D hm) hDle) (x5 _)
 have hcD:∀x c,cl.lookup x=some c->c≠D:=fun x c e z=>by
  rcases hcl.or e with q|q
  ·obtain⟨v,o,ho,_⟩:=I2.cell x c q
   exact(below c o ho).2 z
  ·exact absurd (xv q (by rw[z,hC];exact Nat.le_succ _)) (x5 _)
 let Xc:=zA7 X (own++fre) scope cl C s2 H2 fp
 have hnoS:∀b,s2.heap.objs.size<=b->b ∉ frs X.stack:=fun b hb z=>by
  rcases xk.mp (I2.stkSub b z)with z|z
  ·exact absurd (xv I2.lt hb) (by rw[z];exact x5 _)
  ·exact I2.nofs hb z
 have loop:∀t',codeAny (model X.prog X.w) X.A (.compLoop (.ListComp elt [⟨tg,iter,ifs,0⟩] scope pos) 0 (.ref it) (.ref D) (compEnvC scope cl C X.env)) (RR (.ref D) C) { s2 with heap:=h₁,toks:=t' }:=by
  intro t'
  have I4:Inv Xc [] (zBw own ix σ) H2 { s2 with heap:=h₁,toks:=t' }:=zJk I2 f2 hlt S hcl hnew hCle old hns₁
  refine zFu (fun n s'=>∃i ys σ' H' its k,Inv Xc [] σ' H' s'/\tn i s'.heap/\(∀b∈fp,H' b=none)/\H' D=none/\s'.heap.get? D=some ({ cls:=.type "list",data:=.seq (List.toArray its) k }:Obj)/\Vals ys its/\ys.length<=sizeLine/\W i n ys σ' H')
   ?_ m0 ⟨0,[],_,H2,[],_,I4,T.keep _ _ _ st2 (fun b _ o e=>old b o e),fun b hb=>(f2 b hb).1,I2.hok.fresh hDle,hacc,.nil,x8 _,w0⟩
  rintro n s3 ⟨i,ys,σ3,H3,its,k,I3,st3,fr3,hD3,ho3,hv3,hz3,w3⟩
  have I3p:Inv Xc [(D,{ cls:=.type "list",data:=.seq (List.toArray its) k })] σ3 H3 s3:=I3.pins_of fun p hp=>by
   have e:p=(D,({ cls:=.type "list",data:=.seq (List.toArray its) k }:Obj)):=by simpa using hp
   subst e
   exact⟨ho3,hD3,hDC,hnoS D hDle,fun v z=>by cases z⟩
  have stat:∀{H':Hp},(∀b∈fp,H' b=none)->∀b∈fp,FpOk Xc [(D,({ cls:=.type "list",data:=.seq (List.toArray its) k }:Obj))] H' b:=fun hn b hb=>
   ⟨hn b hb,xt (xv (hlt b hb) hCle),I2.stkNo (f2 b hb),.inl hb,fun x c e=>(hcl.or e).elim (fun e=>(f2 b hb).2.2.2.2.1 x c e) fun z=>xr (xt (vF (xv (hlt b hb) hCle) z)),fun p hp z=>by
    have e:p=(D,({ cls:=.type "list",data:=.seq (List.toArray its) k }:Obj)):=by simpa[Xc,zA7]using hp
    rw[e]at z;exact hDf (by rw[show D=b from z];exact hb)⟩
  rcases turn i n ys σ3 H3 w3 with⟨stop,qn⟩|⟨go,hys,N,hN,step⟩
  ·refine thn (T.done Xc rfl rfl rfl hc i _ s3 σ3 H3 _ I3p (stat fr3) st3 stop) fun r s4 hq1=>?_
   obtain⟨hr,I4⟩:=hq1
   subst hr
   have ho4:=(I4.pin (D,_) (xT _ xN)).1
   obtain⟨m',hn',_⟩:=I4.loc
   have un:Un (frs X.stack) fp H2 (upd H3 D (.lst ys)) s2.heap s4.heap:=Un.adopt (I4.base) hDle hD3
   have hok:HOk X.prog X.w (upd H3 D (.lst ys)) s4.heap:=HOk.adopt (I4.hok) hD3 ⟨hz3,its,_,hv3,ho4⟩
   have IX:=I2.call' I4.os un hok I4.bare fun b hb=>⟨(f2 b hb).2.2.2.1,(f2 b hb).2.1,(f2 b hb).2.2.2.2.1,(f2 b hb).2.2.2.2.2⟩
   exact hRR D C s4 m' ys H3 IX hn' (I2.fpOk hCle (by rw[zA2 (xr hDC)];exact I4.free)) hD3 qn
  ·refine thn (T.item Xc rfl rfl rfl hc i _ s3 σ3 H3 _ I3p (stat fr3) st3 go) fun r s4 hq1=>?_
   obtain⟨u,hr,h4⟩:=hq1
   subst hr
   refine thn h4 fun _ s5 hq1=>?_
   obtain⟨x,H5,I5,r5,y5,st5,fr5⟩:=hq1
   have I5':=I5.pinned (stat fr5) (T.obj _ _ st5)
   refine thn (hg cl C _ s5 σ3 H5 x u _ I5' r5 (step x H5 y5)) fun _ s6 hq1=>?_
   obtain⟨σ6,H6,I6,q6⟩:=hq1
   refine thn (hi cl C _ s6 σ6 H6 _ I6 q6) fun b s7 hq1=>?_
   obtain⟨H7,I7,q7⟩:=hq1
   have keepT:∀{σ7:St}{H7:Hp}{s7:Shared}{h':Heap},Inv Xc ([(D,({ cls:=.type "list",data:=.seq (List.toArray its) k }:Obj))]++zFe fp s5.heap) σ7 H7 s7->(∀b o,b≠D->s7.heap.get? b=some o->h'.get? b=some o)->tn (i+1) h'/\∀b∈fp,H7 b=none:=fun {σ7 H7 s7 h'} I7 hk=>by
    refine⟨T.keep _ _ _ st5 fun b hb o e=>hk b o (fun z=>hDf (z ▸ hb)) (I7.pin (b,o) (xT _ (xT _ (zBq hb e)))).1,fun b hb=>?_⟩
    obtain⟨o,e,d⟩:=T.obj _ _ st5 b hb
    exact(I7.pin (b,o) (xT _ (xT _ (zBq hb e)))).2.1
   cases b with
   | false=>
    obtain⟨m',hm,w7⟩:=hN _ _ _ q7
    obtain⟨t7,f7⟩:=keepT I7 fun _ _ _ e=>e
    have pD:=I7.pin (D,_) (xT _ (vQ _ xN))
    exact⟨m',hm,i+1,ys,σ6,H7,its,k,I7.pins_of (fun p hp=>nomatch hp),t7,f7,pD.2.1,pD.1,hv3,hz3,w7⟩
   | true=>
    refine thn (he cl C _ s7 σ6 H7 _ I7 q7) fun y s8 hq1=>?_
    obtain⟨v,H8,I8,r8,n8⟩:=hq1
    obtain⟨m',hm,w8⟩:=hN _ _ _ n8
    have pD:=I8.pin (D,_) (xT _ (vQ _ xN))
    have hsz:its.toArray.size<=sizeLine:=by rw[xu,<- hv3.length];exact hz3
    refine wpAny_list_append_plain (show s8.heap.PlainList D its.toArray from⟨_,pD.1⟩) fun h₅ hl₅ hs₅=>?_
    obtain⟨t8,f8⟩:=keepT I8 fun b o hb e=>hs₅.extBut b o hb e
    obtain⟨k',ho5⟩:=hl₅
    have I9:=(I8.pins_of (pins':=[]) (fun p hp=>nomatch hp)).turned (t':=s8.toks) (fun b o hb e=>hs₅.extBut b o hb e) pD.2.1 hDC (.inr hDle) hcD fun p hp=>nomatch hp
    refine⟨m',hm,i+1,ys++[v],σ6,H8,its++[y],k',I9,t8,f8,pD.2.1,?_,hv3.append (.cons r8 .nil),(by rw[xE,List.length_singleton];exact hys),w8⟩
    show h₅.get? D=_
    rw[ho5];simp
 exact codeAny_compStart_list (loop _) (T.self _ 0 _ _ _ (T.keep _ _ _ st2 (fun b _ o e=>old b o e)) (loop _))
end
noncomputable def zGe (own:List Str) (ix:List Nat) (wi:TI) (g:TG) (tt:TT) (te:TE):TE:=fun σ H Q=>wi σ H fun J H1=>
 zQ9 J g tt te (zBw own ix σ) H1 fun ys H2=>∀D,H2 D=none->Q (.ref D) (upd H2 D (.lst ys))
section
variable {X:Cx}{own fre:List Str}{ix:List Nat}{scope:Scope}
theorem zOj {tg elt iter:Expr}{ifs:List Expr}{pos:Pos}{wi:TI}{g:TG}{tt:TT}{te:TE}(hc:X.calm=true) (S:CompScope X own fre ix scope) (hi:PI X tg iter wi)
  (hg:∀cl C s H fp,PG (zA7 X (own++fre) scope cl C s H fp) tg g) (ht:∀cl C s H fp,PIfs (zA7 X (own++fre) scope cl C s H fp) ifs tt) (he:∀cl C s H fp,PE (zA7 X (own++fre) scope cl C s H fp) elt te)
  (hs:∀x,foldedSetIterable iter X.env x=pure x:=by intro _;rfl):PE X (.ListComp elt [⟨tg,iter,ifs,0⟩] scope pos) (zGe own ix wi g tt te):=by
 intro pins s σ H Q I h
 obtain⟨cl,ecl,hcl,hcf⟩:=zC8 fun y hy hf=>I.ok.has y.1 (S.fr y hy hf)
 rw[eval_ListComp]
 refine wpAny_comprehension_free rfl hs ecl S.kind S.loc (thn (hi pins s σ H _ I h) fun v s1 h1=>thn h1 fun itv s2 h2=>?_)
 obtain⟨it,fp,tn,J,H2,e,I2,T,st2,f2,q⟩:=h2
 subst e
 refine zDx I2 T st2 f2 hc S hcl hcf (fun cl C=>hg _ _ _ _ _) (fun cl C=>ht _ _ _ _ _) (fun cl C=>he _ _ _ _ _) q ?_
 intro D C s' m' ys H' IX hn fC hD qd
 refine⟨m',hn,fun h' hs'=>?_⟩
 exact⟨.ref D,_,IX.turned (fun b o hb e=>hs'.extBut b o hb e) fC.1 fC.2.1 fC.2.2.2.1 fC.2.2.2.2.1 fC.2.2.2.2.2,rfl,qd D hD⟩
theorem zSf {i:Nat}{x:Str}{pos':Pos}{tg elt iter:Expr}{ifs:List Expr}{pos cpos:Pos}{wi:TI}{g:TG}{tt:TT}{te:TE}(hN:X.N.Nodup) (hix:X.N[i]?=some x) (hx:Loc X.env.scope x)
  (hc:X.calm=true) (S:CompScope X own fre ix scope) (hi:PI X tg iter wi)
  (hg:∀cl C s H fp,PG (zA7 X (own++fre) scope cl C s H fp) tg g) (ht:∀cl C s H fp,PIfs (zA7 X (own++fre) scope cl C s H fp) ifs tt) (he:∀cl C s H fp,PE (zA7 X (own++fre) scope cl C s H fp) elt te)
  (hsw:swapsWith (.ListComp elt [⟨tg,iter,ifs,0⟩] scope cpos) (some (.Name x pos')) pos.line X.env=pure true:=by rfl)
  (hs:∀x,foldedSetIterable iter X.env x=pure x:=by intro _;rfl) (hf:X.fn x=true\/X.env.scope.names.lookup x=some .local:=by first|exact .inl rfl|exact .inr rfl|assumption):
  PS X (.Assign [.Name x pos'] (.ListComp elt [⟨tg,iter,ifs,0⟩] scope cpos) pos) (tAsg (zGe own ix wi g tt te) (gName i)):=by
 intro pins s σ H D I h
 obtain⟨cl,ecl,hcl,hcf⟩:=zC8 fun y hy hf=>I.ok.has y.1 (S.fr y hy hf)
 rw[exec_Assign_Name_used _ _ _ _ hsw]
 refine xa (ua (xa ?_))
 show wpAny _ X.A (do let _ <- comprehension (.ListComp elt [⟨tg,iter,ifs,0⟩] scope cpos) scope X.env _ (newList []) false (eval iter X.env) (some (assign (.Name x pos') X.env))) _ _ s
 refine xa (xJ (wpAny_comprehension_free rfl hs ecl S.kind S.loc
  (thn (hi pins s σ H _ I h) fun v s1 h1=>thn h1 fun itv s2 h2=>?_)) (fun _ s' hq=>xg (xg hq)) fun _ _ e=>e)
 obtain⟨it,fp,tn,J,H2,e,I2,T,st2,f2,q⟩:=h2
 subst e
 refine zDx I2 T st2 f2 hc S hcl hcf (fun cl C=>hg _ _ _ _ _) (fun cl C=>ht _ _ _ _ _) (fun cl C=>he _ _ _ _ _) q ?_
 intro D' C s' m' ys H' IX hn fC hD qd
 show wpAny _ X.A (assign (.Name x pos') X.env (.ref D')) _ _ _
 refine wpAny_assign_Name (zFa (v:=.ref D') IX hN hix hx rfl (fun s'' I'' hsb=>?_) hf)
 obtain⟨a,hsb,ha⟩:=hsb
 have hCa:C≠a:=by
  rcases ha with z|z
  ·rw[z];exact fC.2.1
  ·exact xr (fC.2.2.2.2.1 x a z)
 refine⟨m',hn.sameBut hsb hCa,fun h' hs'=>?_⟩
 exact⟨_,_,I''.turned (fun b o hb e=>hs'.extBut b o hb e) fC.1 fC.2.1 fC.2.2.2.1 fC.2.2.2.2.1 fC.2.2.2.2.2,qd D' hD⟩
end
end L2
namespace LX
open PySem
open Sem (wp)
theorem zOt:typeLookup (.type "list_reverseiterator") "__len__"=pure none:=by rw[typeLookup_type,u0];kernel_rfl
theorem zTu:typeLookup (.type "list_reverseiterator") "__length_hint__"=pure (some (.builtin "list_reverseiterator.__length_hint__")):=by rw[typeLookup_type,u0];kernel_rfl
section
variable {prog:Program}{w:World}{A:Around}{E:Value->Shared->Prop}{s:Shared}
theorem zJh {R:Result->Shared->Prop}{I l:Addr}{items:Array Value}(hh:A.handled=none) (hne:l≠I) (hit:s.heap.IsRevIter I l ((items.size:Int)-1)) (hl:s.heap.IsList l items)
  (S:Addr) (res:Value) (c₀:Nat) (hSI:S≠I) (hSl:S≠l) (hS:s.heap.get? S=some { cls:=.type "list",data:=.seq #[] c₀ }) (hn:items.size<=sizeLine)
  (hR:∀h' tk acc' c',(∀b o,b≠S->b≠I->s.heap.get? b=some o->h'.get? b=some o)->h'.get? S=some { cls:=.type "list",dict:=none,data:=.seq acc' c',slots:=#[] }->
   ItemsOf (fun i v=>items[items.size-1-i]?=some v) acc' items.size->R (.ok (.ret res)) { s with heap:=h',toks:=tk }):
  wpAny (model prog w) A.in1 (Builtin.List.listExtendWith (.ref S) (.ref I) res)
   (fun fin s'=>match fin with|.done f=>R (.ok f) s'|.again c'=>c'.quiet=true/\codeAny (model prog w) A c' R s') (fun e s'=>R (.error e) s') s:=by
 have W:=(Walks.listRev (prog:=prog) (w:=w) (A:=A.in1) hh I l hne items).toS
 have st:0<=items.size/\s.heap.IsRevIter I l ((items.size:Int)-1-((0:Nat):Int))/\s.heap.IsList l items:=⟨x8 _,by simpa using hit,hl⟩
 have hT:=hit.typeIs
 have hSf:S ∉ [I,l]:=fun hm=>by
  rcases xk.mp hm with z|z
  ·exact hSI z
  ·exact hSl (xV.mp z)
 have h1:Builtin.List.listSameRef (.ref S) (.ref I)=false:=by simp[Builtin.List.listSameRef,hSI]
 unfold Builtin.List.listExtendWith
 refine xa (ue hT ?_)
 rw[xf (by rw[h1];decide)]
 refine xa (wpAny_pyIter_revIter hit ?_)
 refine xa (xG ?_)
 unfold Builtin.List.listLengthHint
 refine xa (vT hT zOt ?_)
 show wpAny _ A.in1 (specialOf (Value.ref I) (Str.ofString "__length_hint__") >>= _) _ _ _
 refine xa (vT hT zTu ?_)
 (generalize hid:("list_reverseiterator.__length_hint__":String)=id0;(fail_if_success (clear hid id0));wp_delta;rw[show splitId id0=some ("list_reverseiterator","__length_hint__")from by subst hid;decide +kernel];subst hid)
 refine xa (vU (b:=true) hT (by rw[isSubtype_type];kernel_rfl) ?_)
 refine xg ?_
 rw[xf (by decide)]
 refine xg ⟨plainId_quiet F.plain_extend_loop _,codeAny_extend_loopS W hn _ hSf _ items.size 0 _ _ _ rfl (x8 _) st hS (ItemsOf.nil _) fun s' acc' c' hm hS' hacc=>?_⟩
 rw[Moved.eq_with hm]
 refine hR s'.heap s'.toks acc' c' (fun b o hb hb' e=>hm.heap b o (fun hmem=>?_) e) hS' hacc
 rcases xk.mp hmem with z|z
 ·exact hb z
 ·exact hb' (xV.mp z)
theorem zPa {R:Result->Shared->Prop}{I l:Addr}{items:Array Value}(hh:A.handled=none) (hne:l≠I) (hit:s.heap.IsRevIter I l ((items.size:Int)-1)) (hl:s.heap.IsList l items)
  (S:Addr) (hSI:S≠I) (hSl:S≠l) (hS:s.heap.get? S=some { cls:=.type "list",data:=.seq #[] }) (hn:items.size<=sizeLine)
  (hR:∀h' tk acc' c',(∀b o,b≠S->b≠I->s.heap.get? b=some o->h'.get? b=some o)->h'.get? S=some { cls:=.type "list",dict:=none,data:=.seq acc' c',slots:=#[] }->
   ItemsOf (fun i v=>items[items.size-1-i]?=some v) acc' items.size->R (.ok (.ret .none)) { s with heap:=h',toks:=tk }):
  wpAny (model prog w) A.in1 (Builtin.«list.__init__» ⟨[.ref S,.ref I],[]⟩)
   (fun fin s'=>match fin with|.done f=>R (.ok f) s'|.again c'=>c'.quiet=true/\codeAny (model prog w) A c' R s') (fun e s'=>R (.error e) s') s:=by
 show wpAny _ A.in1 (do let old <- Builtin.List.listItems (.ref S);Builtin.List.listUpdate (.ref S) (fun _=>#[]);letGo old.toList.reverse;Builtin.List.listExtendWith (.ref S) (.ref I) .none) _ _ s
 refine xa ?_
 unfold Builtin.List.listItems
 refine xa (vj hS rfl (xg ?_))
 show wpAny _ A.in1 (updateSeq S (fun _=>#[]) >>= fun _=>letGo (#[]:Array Value).toList.reverse >>= fun _=>Builtin.List.listExtendWith (.ref S) (.ref I) .none) _ _ s
 refine xa (wpAny_updateSeq hS rfl ?_)
 have hS₂:=vH (Obj.mapSeq (fun _=>(#[]:Array Value))) hS rfl
 have oth:∀b o,b≠S->s.heap.get? b=some o->(s.heap.update S (Obj.mapSeq (fun _=>(#[]:Array Value)))).get? b=some o:=
  fun b o hb e=>(vt _ _ (xr hb)).trans e
 refine xa (wpAny_letGo ?_)
 refine zJh hh hne (hit.at fun o e=>oth I o (xr hSI) e) (hl.at fun o e=>oth l o (xr hSl) e) S .none _ hSI hSl hS₂ hn fun h' tk acc' c' hk hS' hacc=>?_
 exact hR h' tk acc' c' (fun b o hb hb' e=>hk b o hb hb' (oth b o hb e)) hS' hacc
theorem call_list_rev {Q:Value->Shared->Prop}{I l:Addr}{items:Array Value}(hh:A.handled=none) (hne:l≠I) (hit:s.heap.IsRevIter I l ((items.size:Int)-1)) (hl:s.heap.IsList l items) (hn:items.size<=sizeLine)
  (hQ:∀h' tk acc' c',(∀b o,b≠I->s.heap.get? b=some o->h'.get? b=some o)->h'.get? s.heap.objs.size=some { cls:=.type "list",dict:=none,data:=.seq acc' c',slots:=#[] }->
   ItemsOf (fun i v=>items[items.size-1-i]?=some v) acc' items.size->Q (.ref s.heap.objs.size) { s with heap:=h',toks:=tk }):wpAny (model prog w) A (call (.type "list") [.ref I]) Q E s:=by
 refine callType_codes (Q₁:=fun obj s₁=>obj=.ref s.heap.objs.size/\s₁={ s with heap:=s.heap.push { cls:=.type "list",data:=.seq #[] } }) F.called_list (F.typeCall_list_1 _) F.entry_list_init
  (code_list_new _ ⟨rfl,rfl⟩) fun obj s₁ h₁=>?_
 obtain⟨rfl,rfl⟩:=h₁
 have hS:(s.heap.push { cls:=.type "list",data:=.seq #[] }).get? s.heap.objs.size=some { cls:=.type "list",data:=.seq #[] }:=xw _ rfl
 have nI:s.heap.objs.size≠I:=by obtain⟨o,ho,_⟩:=hit;exact xr (xt (xj ho))
 have nl:s.heap.objs.size≠l:=by obtain⟨o,ho,_⟩:=hl;exact xr (xt (xj ho))
 refine⟨⟨_,hS,rfl⟩,F.args_list_init_2 _ _,zPa (A:=A.in1) hh hne (hit.at fun o e=>xi _ e) (hl.at fun o e=>xi _ e) _ nI nl hS hn fun h' tk acc' c' hk hS' hacc=>?_⟩
 exact⟨rfl,hQ h' tk acc' c' (fun b o hb e=>hk b o (xt (xj e)) hb (xi _ e)) hS' hacc⟩
end
end LX
namespace L2
open PySem PySem.Spec PyProof.Rows
section
variable {X:Cx}
noncomputable def zE6 (K:PySem.W.Frag) (te:TE):TE:=fun σ H Q=>te σ H fun x H1=>∃a xs,x=.ref a/\SqL K H1 a xs/\∀l,H1 l=none->Q (.ref l) (upd H1 l (.lst xs.reverse))
theorem zGc {xs:List V}{its:List Value}{acc:Array Value}(r:Vals xs its) (h:ItemsOf (fun i v=>its.toArray[its.toArray.size-1-i]?=some v) acc its.toArray.size):acc.toList=its.reverse:=by
 obtain⟨hs,hi⟩:=h
 have hs':acc.size=its.length:=by simpa using hs
 refine List.ext_getElem? fun j=>?_
 rcases vc j its.length with hj|hj
 ·have e1:acc[j]?=some (acc[j]'(by nofun)):=x3 (by nofun)
  have e2:=hi j _ e1
  rw[uH,e1,List.getElem?_reverse hj,<- e2]
  simp
 ·rw[vC (by simpa[hs']using hj),vC (by simpa using hj)]
theorem zJ5 {e:Expr}{te:TE}{p p2 pos pos2:Pos}(hc:X.calm=true) (he:PE X e te) (hgl:Gl X "list") (hml:X.mg "list"=none) (hgr:Gl X "reversed") (hmr:X.mg "reversed"=none)
  (hs:starEach [e] X.env=[(false,eval e X.env)]:=by rfl)
  (hs2:starEach [Expr.Call (.Name "reversed" p2) [e] [] pos2] X.env=[(false,eval (.Call (.Name "reversed" p2) [e] [] pos2) X.env)]:=by rfl):
  PE X (.Call (.Name "list" p) [.Call (.Name "reversed" p2) [e] [] pos2] [] pos) (zE6 X.K te):=by
 intro pins s σ H Q I h
 refine vE (zC6 I hgl hml PyProof.Rows.boot_list ?_)
 refine uu ?_ hs2 rfl
 rw[hs2]
 show wpAny _ _ (spliced ((false,eval (.Call (.Name "reversed" p2) [e] [] pos2) X.env)::backTo pos [])) _ _ s
 refine uc ?_
 refine vE (zC6 I hgr hmr PyProof.Rows.boot_reversed ?_)
 refine uu ?_ hs rfl
 rw[hs]
 show wpAny _ _ (spliced ((false,eval e X.env)::backTo pos2 [])) _ _ s
 refine uc (thn (he pins s σ H _ I h) fun u s1 hq1=>?_)
 obtain⟨x,H1,I1,r1,a,xs,ex,hq,q⟩:=hq1
 subst ex
 cases r1
 refine uw ?_
 obtain⟨its,rv,pl,hz⟩:=I1.list hq
 refine call_reversed_list pl.isList ?_
 refine uw ?_
 have I2:Inv X pins σ H1 { s1 with heap:=s1.heap.push (revObj a ((its.toArray.size:Int)-1)) }:=I1.kept fun b o e=>xi _ e
 have hne:a≠s1.heap.objs.size:=by obtain⟨o,ho,_⟩:=pl.isList;exact xt (xj ho)
 refine LX.call_list_rev (I.ok.hd hc) hne ⟨_,xw _ rfl,rfl,rfl⟩ (pl.isList.at fun o e=>xi _ e) (by simpa[<- rv.length]using hz) fun h' tk acc c kp ho hi=>?_
 have hfr:=I1.hok.fresh (xh _)
 have fp:=I1.fpOk (xh _) hfr
 have I3:=Inv.turned (t':=tk) I2 (fun b o hb e=>kp b o hb e) fp.1 fp.2.1 fp.2.2.2.1 fp.2.2.2.2.1 fp.2.2.2.2.2
 generalize hDD:(s1.heap.push (revObj a ((its.toArray.size:Int)-1))).objs.size=D at ho ⊢
 have hD:H1 D=none:=by rw[<- hDD];exact I2.hok.fresh (xh _)
 have fD:=I2.fpOk (by rw[<- hDD];exact xh _) hD
 have e1:=zGc rv hi
 have ho':h'.get? D=some { cls:=.type "list",dict:=none,data:=.seq (its.reverse).toArray c,slots:=#[] }:=by rw[ho,<- e1]
 have hok:HOk X.prog X.w (upd H1 D (.lst xs.reverse)) h':=HOk.adopt I3.hok hD ⟨by rw[uM];exact hz,_,_,rv.reverse,ho'⟩
 have I4:Inv X pins σ (upd H1 D (.lst xs.reverse)) { s1 with heap:=h',toks:=tk }:=by
  refine Inv.call' (ch:=[s1.heap.objs.size]) I2 rfl ?_ hok I3.bare fun b hb=>?_
  ·have ne:∀b,b ∉ [s1.heap.objs.size]->b≠s1.heap.objs.size:=fun b hb z=>hb (by simp[z])
   exact⟨fun b o e _ _ hx=>kp b o (ne b hx) e,fun b o e _ _ hx=>⟨o.slots,kp b o (ne b hx) e⟩,fun b o e n _=>by
     rw[zA2 (xt (xv (xj e) (by rw[<- hDD];exact xh _)))];exact n,fun b o e hx=>⟨o,kp b o (ne b hx) e⟩,
    fun b ys e=>by rw[zA2 (zA4 e hD)];exact e,fun b o u e=>by rw[zA2 (zA4 e hD)];exact e,fun b ps e=>⟨#[],by rw[zA2 (zA4 e hD),e];simp⟩⟩
  ·have e:b=s1.heap.objs.size:=by simpa using hb
   subst e
   exact⟨fp.2.2.2.1,fp.2.1,fp.2.2.2.2.1,fp.2.2.2.2.2⟩
 exact⟨.ref D,_,I4,rfl,q D hD⟩
theorem zE5 {A:Around}{P:Program}{w:World}{bs:List Bool}{its:List Value}(r:Vals (bs.map V.bl) its):TruthOf P w A (fun i v=>its.toArray[i]?=some v) (fun i=>bs.getD i false):=by
 intro i v s Q E hv hq
 have hv':its[i]?=some v:=by simpa using hv
 have hlt:=(xI.mp hv').1
 have hl:=r.length
 rw[xq]at hl
 have hb:(bs.map V.bl)[i]?=some (V.bl (bs[i]'(by nofun))):=by rw[vp,xC (by nofun)];rfl
 obtain⟨u,hu,ru⟩:=r.get hb
 rw[hv']at hu
 cases hu
 cases ru
 dsimp only at hq
 rw[List.getD_eq_getElem?_getD,xC (by nofun)]at hq
 exact ve hq
theorem zDe:∀bs:List Bool,((List.range bs.length).all fun i=>bs.getD i false)=bs.all id:=by
 intro bs
 rw[uN,xO,xO]
 constructor
 ·intro h b hb
  obtain⟨i,hi,rfl⟩:=vV.mp hb
  have:=h i (vy.mpr hi)
  simpa[List.getD_eq_getElem?_getD,hi]using this
 ·intro h i hi
  have hi':=vy.mp hi
  have:=h bs[i] (List.getElem_mem hi')
  simpa[List.getD_eq_getElem?_getD,hi']using this
theorem zN6 (hc:X.calm=true):zAu X (.builtin "all") (fun xs H Q=>∃(p:Addr) (bs:List Bool),xs=[.ref p]/\SqL X.K H p (bs.map V.bl)/\Q (.bl (bs.all id)) H):=by
 intro pins s σ H xs us Q I r h
 obtain⟨p,bs,rfl,hq,q⟩:=h
 obtain⟨u,rfl,rx⟩:=vals1 r
 cases rx
 obtain⟨its,rv,pl,hz⟩:=I.list hq
 have hl:=rv.length
 rw[xq]at hl
 have hne:p≠s.heap.objs.size:=by obtain⟨o,ho,_⟩:=pl.isList;exact xt (xj ho)
 refine call_all_walk (uO pl.isList ?_)
 refine⟨_,_,_,_,_,_,_,rfl,Walks.list (A:=X.A.in1) (I.ok.hd hc) _ p hne its.toArray,⟨⟨_,xw _ rfl,rfl,rfl⟩,pl.isList.at fun o e=>xi _ e⟩,zE5 rv,fun h' tk hk=>?_⟩
 have hfr:=I.hok.fresh (xh _)
 have fp:=I.fpOk (xh _) hfr
 have e:((List.range its.toArray.size).all fun i=>bs.getD i false)=bs.all id:=by rw[xu,<- hl];exact zDe bs
 rw[e]
 exact⟨.bl (bs.all id),H,Inv.turned (I.kept fun b o e=>xi _ e) (fun b o hb e=>hk b o (by simpa using hb) e) fp.1 fp.2.1 fp.2.2.2.1 fp.2.2.2.2.1 fp.2.2.2.2.2,rfl,q⟩
end
end L2
namespace L2
open PySem PySem.Spec PyProof.Rows
section
variable {X:Cx}{pins:List (Addr × Obj)}{σ:St}{H:Hp}{s:Shared}
noncomputable def gLst (K:PySem.W.Frag) (n:Nat) (t:TGs):TG:=fun v σ H Q=>∃a xs,v=.ref a/\SqL K H a xs/\xs.length=n/\t xs σ H Q
theorem zIg {prog:Program}{w:World}{A:Around}{E:Value->Shared->Prop}{it t:Addr}{items:Array Value}(hne:t≠it):∀(n i:Nat) (s:Shared) (Q:List Value->Shared->Prop),s.heap.IsListIter it t i->s.heap.IsList t items->i+n<=items.size->
  (∀h',h'.IsListIter it t (i+n)->Heap.SameBut it s.heap h'->Q ((items.toList.drop i).take n) { s with heap:=h' })->wpAny (model prog w) A (draw (.ref it) n) Q E s
 | 0,i,s,Q,hit,_,_,hQ=>by
  show wpAny _ _ (pure []) Q E s
  exact xg (by simpa using hQ s.heap hit (Heap.SameBut.refl ..))
 | n+1,i,s,Q,hit,ht,hle,hQ=>by
  have hlt:i<items.size:=by nofun
  show wpAny _ _ (pyNext (.ref it) >>= _) Q E s
  refine xa (wpAny_pyNext_list_item hit ht (x:=items[i]) (by simp[hlt]) fun h₁ hit₁ hs₁=>?_)
  refine xa (xG (zIg hne n (i+1) { s with heap:=h₁ } _ hit₁ (ht.at fun o e=>hs₁.extBut t o hne e) (by nofun) fun h₂ hit₂ hs₂=>xg ?_))
  have hd:items.toList.drop i=items[i]::items.toList.drop (i+1):=by simp[List.drop_eq_getElem_cons,hlt]
  have:=hQ h₂ (by rw[show i+(n+1)=i+1+n by nofun];exact hit₂) (hs₁.trans hs₂)
  rw[hd,List.take_succ_cons]at this
  exact this
theorem zCt {prog:Program}{w:World}{A:Around}{E:Value->Shared->Prop}{s:Shared}{t:Addr}{items:Array Value}{Q:List Value->Shared->Prop}(hh:A.handled=none) (ht:s.heap.IsList t items)
  (hQ:∀h',Heap.ExtBut s.heap.objs.size s.heap h'->Q items.toList { s with heap:=h' }):wpAny (model prog w) A (unpackItems (.ref t) items.size none) Q E s:=by
 have hlt:t≠s.heap.objs.size:=by obtain⟨o,ho,_⟩:=ht;exact xt (xj ho)
 unfold unpackItems
 refine xa ?_
 ·unfold notIterableAtAll
  refine xa (vT ht.typeIs slot_list_iter.lookup ?_)
  refine xg ?_
  simp only[xP,xK]
  refine xa (xG (uO ht ?_))
  refine xa (xG (zIg hlt items.size 0 _ _ ⟨_,xw _ rfl,rfl,rfl⟩ (ht.at fun o e=>xi _ e) (by nofun) fun h₁ hit₁ hs₁=>?_))
  have hall:List.take items.size (List.drop 0 items.toList)=items.toList:=by
   rw[List.drop_zero];exact vW (by simp)
  rw[hall]
  rw[xf (by simp)]
  have ht₁:=ht.at fun o e=>hs₁.extBut t o hlt (xi _ e)
  refine xa (xG (wpAny_pyNext_list_end hh hit₁ ht₁ (by simp) fun h₂ he₂=>?_))
  simp only[Option.isSome_none,xP,xK]
  refine xg (hQ h₂ fun b o hb e=>he₂ b o hb (hs₁.extBut b o hb (xi _ e)))
theorem zWl {es:List Expr}{k:Nat}{t:TGs}{n:Nat}{pos:Pos}(hc:X.calm=true) (h:PGs X es t)
  (hn:(assignEach es X.env).length=n:=by rfl) (hst:(assignEach es X.env).findIdx? (·.1)=none:=by rfl):PG X (.Tuple es k pos) (gLst X.K n t):=by
 intro pins s σ H v u Q I r hw
 obtain⟨a,xs,e1,hq,hl,hw⟩:=hw
 subst e1
 cases r
 obtain⟨its,rv,ht,hz⟩:=I.list hq
 rw[assign_Tuple]
 refine xa (ua ?_)
 unfold unpack
 rw[hst,hn,show n=its.toArray.size by rw[xu,<- rv.length,hl]]
 refine xa (xG (zCt (I.ok.hd hc) ht.isList fun h' hx=>?_))
 have I1:=I.kept (t':=s.toks) fun b o e=>hx b o (xt (xj e)) e
 exact h pins _ σ H xs _ Q I1 (by simpa using rv) hw
end
end L2
namespace L2
open PySem PySem.Spec PyProof.Rows
structure Cal (P:Program) (w:World) (K:PySem.W.Frag) (mg:Str->Option Value) (base:Heap) (x:Str) (k:Nat) (ps:List Str) (sp:Sp):Prop where
 ex:∃f fd,FnOk P w K mg base CX0 k f fd ps sp/\mg x=some (.ref f)/\PySem.W.keepIn K (.ref f)=true/\Binds K fd ps []
section
variable {X:Cx}{x:Str}{k:Nat}{ps:List Str}{sp:Sp}{e:Expr}{es:List Expr}{t:TA}{p pos:Pos}
theorem zWz (C:Cal X.prog X.w X.K X.mg X.base x k ps sp) (hr:Room k X.A) (hg:Gl X x) (ha:PA X (e::es) t) (hdb:(x == ("__debug__":Str))=false:=by decide)
  (hs:starEach (e::es) X.env=(false,eval e X.env)::starEach es X.env:=by rfl) (hpl:(backTo pos (starEach es X.env)).any (·.1)=false:=by rfl):
  PE X (.Call (.Name x p) (e::es) [] pos) (zNk sp [] E0 t):=by
 obtain⟨f,fd,F,hm,hk,hb⟩:=C.ex
 exact zSv F hr hg hm hk hb .nil pass0 ha hdb hs hpl
end
end L2
namespace L2
open PySem PySem.Spec PyProof.Rows
noncomputable def nst:Expr->Bool
 | .Starred ..=>false
 | _=>true
theorem zAo {e:Expr}{es:List Expr}{env:Env}(h:nst e=true):starEach (e::es) env=(false,eval e env)::starEach es env:=by
 cases e <;> first|rfl|cases h
theorem zCf {env:Env}{pos:Pos}:∀{es:List Expr},es.all nst=true->(backTo pos (starEach es env)).any (·.1)=false
 | [],_=>rfl
 | e::es,h=>by
  simp only[vw,xm]at h
  rw[zAo h.1]
  show(false || (backTo pos (starEach es env)).any (·.1))=false
  rw[zCf h.2];rfl
noncomputable def nsl:Expr->Bool
 | .Slice ..=>false
 | _=>true
theorem zOb {b:Expr}(h:nsl b=true):zNf b:=fun o i=>by cases b <;> first|rfl|cases h
noncomputable def nco:Expr->Bool
 | .ListComp ..|.SetComp ..|.DictComp ..=>false
 | _=>true
theorem zE7 {e:Expr}{tg:Option Expr}{l:Nat}{env:Env}(h:nco e=true):swapsWith e tg l env=pure false:=by cases e <;> first|rfl|cases h
theorem zRq {e:Expr}{tg:Expr}{l:Nat}{env:Env}(h:nco e=true):swapsWithSole [tg] e l env=pure false:=zE7 h
theorem zNp {e:Expr}{es:List Expr}{k:Nat}{p:Pos}{l:Nat}{env:Env}:swapsWithSole [.Tuple es k p] e l env=pure false:=by
 show swapsWith e (some (.Tuple es k p)) l env=pure false
 cases e <;> rfl
theorem zDc {tg:Expr}{es:List Expr}{env:Env}(h:nst tg=true):(assignEach (tg::es) env).map (·.2)=assign tg env::(assignEach es env).map (·.2):=by cases tg <;> first|rfl|cases h
theorem zAn {env:Env}:∀{es:List Expr},es.all nst=true->(assignEach es env).length=es.length/\(assignEach es env).findIdx? (·.1)=none
 | [],_=>⟨rfl,rfl⟩
 | e::es,h=>by
  simp only[vw,xm]at h
  obtain⟨h1,h2⟩:=zAn h.2
  have e1:assignEach (e::es) env=(false,assign e env)::assignEach es env:=by
   have:=h.1
   cases e <;> first|rfl|cases this
  rw[e1]
  refine⟨by rw[xA,h1,xA],?_⟩
  rw[List.findIdx?_cons]
  simp[h2]
noncomputable def nse:Expr->Bool
 | .Set ..=>false
 | _=>true
theorem zEb {e:Expr}{env:Env}(h:nse e=true) (x:Value):foldedSetIterable e env x=pure x:=by cases e <;> first|rfl|cases h
noncomputable def nba:Expr->Bool
 | .Call ..=>false
 | _=>true
theorem zDb {o:Expr}{m:Str}{env:Env}(h:nba o=true):attributeBase o m env (eval o env)=eval o env:=by cases o <;> first|rfl|cases h
noncomputable def ntt:Expr->Bool
 | .UnaryOp ..|.BoolOp ..|.IfExp ..|.Compare ..=>false
 | _=>true
theorem zRj {e:Expr}{env:Env}(h:ntt e=true) (whole:Sem Value):isTrue e env whole=(do let v <- whole;standAt e.pos;holding [v] (truthy v)):=by cases e <;> first|rfl|cases h
section
variable {X:Cx}{e o i a b:Expr}{es:List Expr}{te ta tb to ti:TE}{t:TA}{p pos cpos apos:Pos}
theorem qa (ha:PE X e te) (hr:PA X es t) (h:nst e=true:=by rfl):PA X (e::es) (zRo te t):=zSy ha hr (zAo h)
theorem qix {r:R2}(hr:IxR X r) (ha:PE X a ta) (hb:PE X b tb) (h:nsl b=true:=by rfl):PE X (.Subscript a b pos) (tOp r ta tb):=yAb hr ha hb (zOb h)
theorem qcal {x:Str}{k:Nat}{ps:List Str}{sp:Sp}(C:Cal X.prog X.w X.K X.mg X.base x k ps sp) (hr:Room k X.A) (hg:Gl X x) (ha:PA X (e::es) t) (hdb:(x == ("__debug__":Str))=false:=by decide)
  (h:(e::es).all nst=true:=by rfl):PE X (.Call (.Name x p) (e::es) [] pos) (zNk sp [] E0 t):=by
 simp only[vw,xm]at h
 exact zWz C hr hg ha hdb (zAo h.1) (zCf h.2)
theorem zW6 {x:Str}{id:String}{r:List V->Hp->VK->Prop}(hc:zAu X (.builtin id) r) (hg:Gl X x) (hm:X.mg x=none) (hv:bootBuiltins x=some (.builtin id)) (ha:PA X (e::es) t) (hn:x≠"__name__":=by decide) (hdb:(x == ("__debug__":Str))=false:=by decide)
  (h:(e::es).all nst=true:=by rfl):PE X (.Call (.Name x p) (e::es) [] pos) (tCB r t):=by
 simp only[vw,xm]at h
 exact zOo hc hg hm hv ha hn hdb (zAo h.1) (zCf h.2)
theorem zW5 {x:Str}{T:String}{r:List V->Hp->VK->Prop}(hc:zAu X (.type T) r) (hg:Gl X x) (hm:X.mg x=none) (hv:bootBuiltins x=some (.type T)) (ha:PA X (e::es) t) (hn:x≠"__name__":=by decide) (hdb:(x == ("__debug__":Str))=false:=by decide)
  (h:(e::es).all nst=true:=by rfl):PE X (.Call (.Name x p) (e::es) [] pos) (tCB r t):=by
 simp only[vw,xm]at h
 exact zL4 hc hg hm hv ha hn hdb (zAo h.1) (zCf h.2)
theorem qtruth (ha:PE X e te) (h:ntt e=true:=by rfl):PT X e (fun σ H Q=>te σ H fun x H1=>∃k,TruV X.K x H1 k/\Q k H1):=zO3 ha (zRj h)
theorem qset {j:Nat}{x:Str}{pos':Pos}(hN:X.N.Nodup) (hi:X.N[j]?=some x) (hx:Loc X.env.scope x) (he:PE X e te) (hf:X.fn x=true\/X.env.scope.names.lookup x=some .local:=by first|exact .inl rfl|exact .inr rfl|assumption) (h:nco e=true:=by rfl):
  PS X (.Assign [.Name x pos'] e pos) (tAsg te (gName j)):=zWf hN hi hx he (zE7 h) hf
theorem qgs {tg:Expr}{ts:List Expr}{g:TG}{gs:TGs}(h1:PG X tg g) (h2:PGs X ts gs) (h:nst tg=true:=by rfl):PGs X (tg::ts) (zTy g gs):=zOg h1 h2 (zDc h)
theorem qtup {ts:List Expr}{k n:Nat}{gs:TGs}(hc:X.calm=true) (h:PGs X ts gs) (hn:ts.length=n:=by rfl) (h1:ts.all nst=true:=by rfl):PG X (.Tuple ts k pos) (gTup X.K n gs):=zWm hc h ((zAn h1).1.trans hn) (zAn h1).2
theorem qunl {ts:List Expr}{k n:Nat}{gs:TGs}(hc:X.calm=true) (h:PGs X ts gs) (hn:ts.length=n:=by rfl) (h1:ts.all nst=true:=by rfl):PG X (.Tuple ts k pos) (gLst X.K n gs):=zWl hc h ((zAn h1).1.trans hn) (zAn h1).2
theorem qfor {tg iter:Expr}{body:List Stmt}{wi:TI}{g:TG}{tb:TS}(hp:PassesOwn (model X.prog X.w) X.A X.env X.xe) (hc:X.calm=true) (hi:PI X tg iter wi) (hg:PG X tg g) (hb:PSs X body tb) (h:nse iter=true:=by rfl):
  PS X (.For tg iter body [] pos) (tFor wi g tb):=zWj hp hc hi hg hb (zEb h)
theorem qexpr (he:PE X e te) (h:nco e=true:=by rfl):PS X (.Expr e pos) (zRn te):=zSh he (zE7 h)
theorem qlcomp {own fre:List Str}{ix:List Nat}{scope:Scope}{tg elt iter:Expr}{ifs:List Expr}{wi:TI}{g:TG}{tt:TT}(hc:X.calm=true) (S:CompScope X own fre ix scope) (hi:PI X tg iter wi)
  (hg:∀cl C s H fp,PG (zA7 X (own++fre) scope cl C s H fp) tg g) (ht:∀cl C s H fp,PIfs (zA7 X (own++fre) scope cl C s H fp) ifs tt) (he:∀cl C s H fp,PE (zA7 X (own++fre) scope cl C s H fp) elt te)
  (h:nse iter=true:=by rfl):PE X (.ListComp elt [⟨tg,iter,ifs,0⟩] scope pos) (zGe own ix wi g tt te):=zOj hc S hi hg ht he (zEb h)
theorem qsetc {own fre:List Str}{ix:List Nat}{scope:Scope}{j:Nat}{x:Str}{pos':Pos}{tg elt iter:Expr}{ifs:List Expr}{wi:TI}{g:TG}{tt:TT}(hN:X.N.Nodup) (hix:X.N[j]?=some x) (hx:Loc X.env.scope x)
  (hc:X.calm=true) (S:CompScope X own fre ix scope) (hi:PI X tg iter wi)
  (hg:∀cl C s H fp,PG (zA7 X (own++fre) scope cl C s H fp) tg g) (ht:∀cl C s H fp,PIfs (zA7 X (own++fre) scope cl C s H fp) ifs tt) (he:∀cl C s H fp,PE (zA7 X (own++fre) scope cl C s H fp) elt te)
  (hsw:swapsWith (.ListComp elt [⟨tg,iter,ifs,0⟩] scope cpos) (some (.Name x pos')) pos.line X.env=pure true:=by rfl) (h:nse iter=true:=by rfl) (hf:X.fn x=true\/X.env.scope.names.lookup x=some .local:=by first|exact .inl rfl|exact .inr rfl|assumption):
  PS X (.Assign [.Name x pos'] (.ListComp elt [⟨tg,iter,ifs,0⟩] scope cpos) pos) (tAsg (zGe own ix wi g tt te) (gName j)):=zSf hN hix hx hc S hi hg ht he hsw (zEb h) hf
theorem qrange1 {tg:Expr}{ta:TA}(hg:Gl X "range") (hm:X.mg "range"=none) (ha:PA X [a] ta) (h:nst a=true:=by rfl):PI X tg (.Call (.Name "range" p) [a] [] pos) (zTt ta):=zKy hg hm ha (zAo h)
theorem qlistrev {p2 pos2:Pos}(hc:X.calm=true) (he:PE X e te) (hgl:Gl X "list") (hml:X.mg "list"=none) (hgr:Gl X "reversed") (hmr:X.mg "reversed"=none) (h:nst e=true:=by rfl):
  PE X (.Call (.Name "list" p) [.Call (.Name "reversed" p2) [e] [] pos2] [] pos) (zE6 X.K te):=zJ5 hc he hgl hml hgr hmr (zAo h) rfl
theorem qbm0 {T name id:_}{r:V->List V->Hp->VK->Prop}(pa:PlainAttrs T) (slot:Slot T name id) (hty:typeOf (.builtin id)=pure (.type "method_descriptor")) (hm:MtR X id r) (ho:PE X o to) (h:nba o=true:=by rfl) (hline:(apos.endLine == cpos.line)=true:=by rfl):
  PE X (.Call (.Attribute o name apos) [] [] cpos) (tBM0 X.K T r to):=zX0 pa slot hty hm ho (zDb h) hline
theorem qpar {x y:Str}{px py pt pt2:Pos}{kt k2 i j:Nat}{ta:TA}(hc:X.calm=true) (hN:X.N.Nodup) (hi:X.N[i]?=some x) (hj:X.N[j]?=some y) (hij:i≠j)
  (hx:X.env.scope.names.lookup x=some .local) (hy:X.env.scope.names.lookup y=some .local) (ha:PA X [a,b] ta)
  (hw:swappedStores [.Tuple [.Name x px,.Name y py] kt pt] (.Tuple [a,b] k2 pt2) X.env=pure (some [x,y])):
  PS X (.Assign [.Tuple [.Name x px,.Name y py] kt pt] (.Tuple [a,b] k2 pt2) pos) (tPar i j ta):=zWh hc hN hi hj hij hx hy ha hw zNp
end
end L2
namespace L2
open PySem PySem.Spec PyProof.Rows
structure SE (X:Cx) (e:Expr) (t:TE):Prop where h:PE X e t
structure ST (X:Cx) (e:Expr) (t:TT):Prop where h:PT X e t
structure SW (X:Cx) (e:Expr) (t:TT):Prop where h:PW X e t
structure SA (X:Cx) (es:List Expr) (t:TA):Prop where h:PA X es t
structure SS (X:Cx) (st:Stmt) (t:TS):Prop where h:PS X st t
structure SSs (X:Cx) (st:List Stmt) (t:TS):Prop where h:PSs X st t
structure SG (X:Cx) (e:Expr) (t:TG):Prop where h:PG X e t
structure SGs (X:Cx) (es:List Expr) (t:TGs):Prop where h:PGs X es t
structure SI (X:Cx) (tg e:Expr) (t:TI):Prop where h:PI X tg e t
structure SIfs (X:Cx) (es:List Expr) (t:TT):Prop where h:PIfs X es t
structure SO (X:Cx) (e:Option Expr) (t:TO):Prop where h:PO X e t
structure SPs (X:Cx) (pos:Pos) (ks:List (Option Expr)) (vs:List Expr) (t:List (TE × TE)):Prop where h:PPs X pos ks vs t
section
variable {X:Cx}{e o i a b c:Expr}{es:List Expr}{te ta tb tc to ti tv td ty:TE}{t:TA}{p pos cpos apos:Pos}{tA tB':TT}
theorem pv' (i:Nat) {x:Str}{pos:Pos}(hN:X.N[i]?=some x:=by rfl) (hv:Vis X.env.scope x:=by first|exact Or.inl rfl|exact Or.inr (Or.inl rfl)|exact Or.inr (Or.inr rfl)) (hd:(x == ("__debug__":Str))=false:=by decide)
  (hcd:(x == ("__classdict__":Str))=false:=by decide):SE X (.Name x pos) (tVar i):=⟨pv i hN hv hd hcd⟩
theorem zSr {i:Int}{j:Nat}:SE X (.Constant (.int i) j pos) (tC (.int i)):=⟨zWx⟩
theorem zX2 {b:Bool}{j:Nat}:SE X (.Constant (.bool b) j pos) (tC (.bl b)):=⟨yAd⟩
theorem zSp {j:Nat}:SE X (.Constant .none j pos) (tC .non):=⟨zWv⟩
theorem zL0 {x:Str}{j:Nat}:SE X (.Constant (.str x) j pos) (tC (.str x)):=⟨zWr⟩
theorem zOp {x:Str}{v:V}{u:Value}(hg:Gl X x) (hm:X.mg x=none) (hv:bootBuiltins x=some u) (r:RelV v u) (hn:x≠"__name__":=by decide) (hd:(x == ("__debug__":Str))=false:=by decide):SE X (.Name x pos) (tC v):=⟨zSw hg hm hv r hn hd⟩
theorem zWt {op:Operator}{r:R2}(ho:OpR X (binaryOp op) r) (ha:SE X a ta) (hb:SE X b tb):SE X (.BinOp a op b pos) (tOp r ta tb):=⟨yAa ho ha.h hb.h⟩
theorem zWp {op:UnaryOp}{r:V->Hp->VK->Prop}(ho:UnR X (unaryOp op) r) (ha:SE X a ta):SE X (.UnaryOp op a pos) (tUn r ta):=⟨yA8 ho ha.h⟩
theorem zSx (ha:SE X a ta) (hb:SE X (.BoolOp .And (b::es) pos) tb):SE X (.BoolOp .And (a::b::es) pos) (zVr ta tb):=⟨zX3 ha.h hb.h⟩
theorem zWs (ha:SE X a ta) (hb:SE X (.BoolOp .Or (b::es) pos) tb):SE X (.BoolOp .Or (a::b::es) pos) (tOrV ta tb):=⟨yA9 ha.h hb.h⟩
theorem zSo {op:BoolOp}(ha:SE X a ta):SE X (.BoolOp op [a] pos) ta:=⟨zWu ha.h⟩
theorem zL2 (hc:ST X c tA) (ha:SE X a ta) (hb:SE X b tb):SE X (.IfExp c a b pos) (tIf tA ta tb):=⟨zOk hc.h ha.h hb.h⟩
theorem zKz {k:Nat}(h:SA X es t):SE X (.Tuple es k pos) (tTup t):=⟨zWq h.h⟩
theorem zSq (h:SA X es t):SE X (.List es pos) (tLst t):=⟨zWw h.h⟩
theorem zOl {keys:List (Option Expr)}{values:List Expr}{trs:List (TE × TE)}(h:SPs X pos keys values trs) (hall:keys.all (·.isSome)=true) (hl:keys.length=values.length) (h0:keys≠[]) (h15:keys.length<=15):SE X (.Dict keys values pos) (zVq trs):=⟨zSt h.h hall hl h0 h15⟩
theorem zO8:SPs X pos [] [] []:=⟨zSi⟩
theorem zKt {k v:Expr}{ks:List (Option Expr)}{vs:List Expr}{tk:TE}{trs:List (TE × TE)}(hk:SE X k tk) (hv:SE X v tv) (hr:SPs X pos ks vs trs):SPs X pos (some k::ks) (v::vs) ((tk,tv)::trs):=⟨zO9 hk.h hv.h hr.h⟩
theorem zL1 {r:V->Option Int->Option Int->Hp->VK->Prop}{lo hi:Option Expr}{tl th:TO}{p2:Pos}(hr:SlR X r) (he:SE X e te) (hl:SO X lo tl) (hu:SO X hi th):SE X (.Subscript e (.Slice lo hi none p2) pos) (tSl r te tl th):=⟨zOi hr he.h hl.h hu.h⟩
theorem po_none':SO X none zK4:=⟨zSk⟩
theorem zOa (h:SE X e te):SO X (some e) (zVo te):=⟨zSj h.h⟩
theorem pa_nil':SA X [] tNil:=⟨zX4⟩
theorem qa' (ha:SE X e te) (hr:SA X es t) (h:nst e=true:=by rfl):SA X (e::es) (zRo te t):=⟨qa ha.h hr.h h⟩
theorem qix' {r:R2}(hr:IxR X r) (ha:SE X a ta) (hb:SE X b tb) (h:nsl b=true:=by rfl):SE X (.Subscript a b pos) (tOp r ta tb):=⟨qix hr ha.h hb.h h⟩
theorem qcal' {x:Str}{k:Nat}{ps:List Str}{sp:Sp}(C:Cal X.prog X.w X.K X.mg X.base x k ps sp) (hr:Room k X.A) (hg:Gl X x) (ha:SA X (e::es) t) (hdb:(x == ("__debug__":Str))=false:=by decide)
  (h:(e::es).all nst=true:=by rfl):SE X (.Call (.Name x p) (e::es) [] pos) (zNk sp [] E0 t):=⟨qcal C hr hg ha.h hdb h⟩
theorem zGh {x:Str}{id:String}{r:List V->Hp->VK->Prop}(hc:zAu X (.builtin id) r) (hg:Gl X x) (hm:X.mg x=none) (hv:bootBuiltins x=some (.builtin id)) (ha:SA X (e::es) t) (hn:x≠"__name__":=by decide) (hdb:(x == ("__debug__":Str))=false:=by decide)
  (h:(e::es).all nst=true:=by rfl):SE X (.Call (.Name x p) (e::es) [] pos) (tCB r t):=⟨zW6 hc hg hm hv ha.h hn hdb h⟩
theorem zS5 {x:Str}{T:String}{r:List V->Hp->VK->Prop}(hc:zAu X (.type T) r) (hg:Gl X x) (hm:X.mg x=none) (hv:bootBuiltins x=some (.type T)) (ha:SA X (e::es) t) (hn:x≠"__name__":=by decide) (hdb:(x == ("__debug__":Str))=false:=by decide)
  (h:(e::es).all nst=true:=by rfl):SE X (.Call (.Name x p) (e::es) [] pos) (tCB r t):=⟨zW5 hc hg hm hv ha.h hn hdb h⟩
theorem qlistrev' {p2 pos2:Pos}(hc:X.calm=true) (he:SE X e te) (hgl:Gl X "list") (hml:X.mg "list"=none) (hgr:Gl X "reversed") (hmr:X.mg "reversed"=none) (h:nst e=true:=by rfl):
  SE X (.Call (.Name "list" p) [.Call (.Name "reversed" p2) [e] [] pos2] [] pos) (zE6 X.K te):=⟨qlistrev hc he.h hgl hml hgr hmr h⟩
theorem qbm0' {T name id:_}{r:V->List V->Hp->VK->Prop}(pa:PlainAttrs T) (slot:Slot T name id) (hty:typeOf (.builtin id)=pure (.type "method_descriptor")) (hm:MtR X id r) (ho:SE X o to) (h:nba o=true:=by rfl) (hline:(apos.endLine == cpos.line)=true:=by rfl):
  SE X (.Call (.Attribute o name apos) [] [] cpos) (tBM0 X.K T r to):=⟨qbm0 pa slot hty hm ho.h h hline⟩
theorem zIp {env:Env}{pos:Pos}:∀{es:List Expr},es.all nst=true->(backTo pos (starEach es env)).all (fun x=>!x.1)=true
 | [],_=>rfl
 | e::es,h=>by
  simp only[vw,xm]at h
  rw[zAo h.1]
  show(true && (backTo pos (starEach es env)).all (fun x=>!x.1))=true
  rw[zIp h.2];rfl
theorem zX1 {T name id:_}{r:V->List V->Hp->VK->Prop}(pa:PlainAttrs T) (slot:Slot T name id) (hty:typeOf (.builtin id)=pure (.type "method_descriptor")) (hm:MtR X id r) (ho:SE X o to) (ha:SA X (e::es) t) (h:nba o=true:=by rfl) (hs:(e::es).all nst=true:=by rfl)
  (hlen:decide ((e::es).length+0+0<30)=true:=by rfl) (hline:(apos.endLine == cpos.line)=true:=by rfl):SE X (.Call (.Attribute o name apos) (e::es) [] cpos) (tBM X.K T r to t):=by
 have hs':=hs
 simp only[vw,xm]at hs'
 refine⟨yAc pa slot hty hm ho.h ha.h (zDb h) ?_ hline (zAo hs'.1) (zCf hs'.2)⟩
 rw[zIp hs]
 exact hlen
theorem zOm {op:CmpOp}{r:R2}(ho:OpR X (compareOp op) r) (ha:SE X a ta) (hb:SE X b tb) (hm:behindInMarks op b=false):SE X (.Compare a [op] [b] pos) (tOp r ta tb):=⟨zSu ho ha.h hb.h hm⟩
theorem zO4 {op:CmpOp}{r:R2}(ho:OpR X (compareOp op) r) (ha:SE X a ta) (hb:SE X b tb) (hm:behindInMarks op b=false):ST X (.Compare a [op] [b] pos) (zNj (tOp r ta tb)):=⟨zSc ho ha.h hb.h hm⟩
theorem zKq {op op':CmpOp}{r r':R2}(ho:OpR X (compareOp op) r) (ho':OpR X (compareOp op') r') (ha:SE X a ta) (hb:SE X b tb) (hc:SE X c tc) (hm:lastMarks [op,op'] [b,c]=false:=by with_unfolding_all rfl):ST X (.Compare a [op,op'] [b,c] pos) (zNj (zF9 r r' ta tb tc)):=⟨zO5 ho ho' ha.h hb.h hc.h hm⟩
theorem zL3 {op op':CmpOp}{r r':R2}(ho:OpR X (compareOp op) r) (ho':OpR X (compareOp op') r') (ha:SE X a ta) (hb:SE X b tb) (hc:SE X c tc) (hm:lastMarks [op,op'] [b,c]=false:=by with_unfolding_all rfl):SE X (.Compare a [op,op'] [b,c] pos) (zF9 r r' ta tb tc):=⟨zOn ho ho' ha.h hb.h hc.h hm⟩
theorem zSb (ha:ST X a tA):ST X (.UnaryOp .Not a pos) (tNot tA):=⟨zWd ha.h⟩
theorem zO1 (ha:ST X a tA):SW X (.BoolOp .And [a] pos) tA:=⟨zS8 ha.h⟩
theorem zS7 (ha:ST X a tA):SW X (.BoolOp .Or [a] pos) tA:=⟨zW9 ha.h⟩
theorem zS9 (ha:ST X a tA) (hb:SW X (.BoolOp .And (b::es) pos) tB'):SW X (.BoolOp .And (a::b::es) pos) (tAnd tA tB'):=⟨zWb ha.h hb.h⟩
theorem zWa (ha:ST X a tA) (hb:SW X (.BoolOp .Or (b::es) pos) tB'):SW X (.BoolOp .Or (a::b::es) pos) (tOr tA tB'):=⟨yA2 ha.h hb.h⟩
theorem zW8 (h:SW X e tA):ST X e tA:=⟨h.h.pt⟩
noncomputable def tTru (K:PySem.W.Frag) (te:TE):TT:=fun σ H Q=>te σ H fun x H1=>∃k,TruV K x H1 k/\Q k H1
theorem qtruth' (ha:SE X e te) (h:ntt e=true:=by rfl):ST X e (tTru X.K te):=⟨qtruth ha.h h⟩
theorem qrange1' {tg:Expr}{ta:TA}(hg:Gl X "range") (hm:X.mg "range"=none) (ha:SA X [a] ta) (h:nst a=true:=by rfl):SI X tg (.Call (.Name "range" p) [a] [] pos) (zTt ta):=⟨qrange1 hg hm ha.h h⟩
theorem zOh {j:Nat}{x:Str}(hN:X.N.Nodup) (hi:X.N[j]?=some x) (hx:Loc X.env.scope x) (hf:X.fn x=true\/X.env.scope.names.lookup x=some .local:=by first|exact .inl rfl|exact .inr rfl|assumption):SG X (.Name x pos) (gName j):=⟨zSn hN hi hx hf⟩
theorem pgs_nil':SGs X [] gNil:=⟨zSl⟩
theorem qgs' {tg:Expr}{ts:List Expr}{g:TG}{gs:TGs}(h1:SG X tg g) (h2:SGs X ts gs) (h:nst tg=true:=by rfl):SGs X (tg::ts) (zTy g gs):=⟨qgs h1.h h2.h h⟩
theorem qtup' {ts:List Expr}{k n:Nat}{gs:TGs}(hc:X.calm=true) (h:SGs X ts gs) (hn:ts.length=n:=by rfl) (h1:ts.all nst=true:=by rfl):SG X (.Tuple ts k pos) (gTup X.K n gs):=⟨qtup hc h.h hn h1⟩
theorem qunl' {ts:List Expr}{k n:Nat}{gs:TGs}(hc:X.calm=true) (h:SGs X ts gs) (hn:ts.length=n:=by rfl) (h1:ts.all nst=true:=by rfl):SG X (.Tuple ts k pos) (gLst X.K n gs):=⟨qunl hc h.h hn h1⟩
theorem zSm {ts:TSet}(ho:SE X o to) (hi:SE X i ti) (hs:PSet X ts) (h:nsl i=true:=by rfl):SG X (.Subscript o i pos) (gSub to ti ts):=by
 refine⟨zWn ho.h hi.h hs fun v=>?_⟩
 cases i <;> first|rfl|cases h
theorem pifs_nil':SIfs X [] tYes:=⟨zOd⟩
theorem zKv (hc:ST X c tA):SIfs X [c] tA:=⟨zOc hc.h⟩
theorem qlcomp' {own fre:List Str}{ix:List Nat}{scope:Scope}{tg elt iter:Expr}{ifs:List Expr}{wi:TI}{g:TG}{tt:TT}(hc:X.calm=true) (S:CompScope X own fre ix scope) (hi:SI X tg iter wi)
  (hg:∀cl C s H fp,SG (zA7 X (own++fre) scope cl C s H fp) tg g) (ht:∀cl C s H fp,SIfs (zA7 X (own++fre) scope cl C s H fp) ifs tt) (he:∀cl C s H fp,SE (zA7 X (own++fre) scope cl C s H fp) elt te)
  (h:nse iter=true:=by rfl):SE X (.ListComp elt [⟨tg,iter,ifs,0⟩] scope pos) (zGe own ix wi g tt te):=⟨qlcomp hc S hi.h (fun _ _ _ _ _=>(hg _ _ _ _ _).h) (fun _ _ _ _ _=>(ht _ _ _ _ _).h) (fun _ _ _ _ _=>(he _ _ _ _ _).h) h⟩
theorem qsetc' {own fre:List Str}{ix:List Nat}{scope:Scope}{j:Nat}{x:Str}{pos':Pos}{tg elt iter:Expr}{ifs:List Expr}{wi:TI}{g:TG}{tt:TT}(hN:X.N.Nodup) (hix:X.N[j]?=some x) (hx:Loc X.env.scope x)
  (hc:X.calm=true) (S:CompScope X own fre ix scope) (hi:SI X tg iter wi)
  (hg:∀cl C s H fp,SG (zA7 X (own++fre) scope cl C s H fp) tg g) (ht:∀cl C s H fp,SIfs (zA7 X (own++fre) scope cl C s H fp) ifs tt) (he:∀cl C s H fp,SE (zA7 X (own++fre) scope cl C s H fp) elt te)
  (hsw:swapsWith (.ListComp elt [⟨tg,iter,ifs,0⟩] scope cpos) (some (.Name x pos')) pos.line X.env=pure true:=by rfl) (h:nse iter=true:=by rfl) (hf:X.fn x=true\/X.env.scope.names.lookup x=some .local:=by first|exact .inl rfl|exact .inr rfl|assumption):
  SS X (.Assign [.Name x pos'] (.ListComp elt [⟨tg,iter,ifs,0⟩] scope cpos) pos) (tAsg (zGe own ix wi g tt te) (gName j)):=⟨qsetc hN hix hx hc S hi.h (fun _ _ _ _ _=>(hg _ _ _ _ _).h) (fun _ _ _ _ _=>(ht _ _ _ _ _).h) (fun _ _ _ _ _=>(he _ _ _ _ _).h) hsw h hf⟩
theorem qset' {j:Nat}{x:Str}{pos':Pos}(hN:X.N.Nodup) (hi:X.N[j]?=some x) (hx:Loc X.env.scope x) (he:SE X e te) (hf:X.fn x=true\/X.env.scope.names.lookup x=some .local:=by first|exact .inl rfl|exact .inr rfl|assumption) (h:nco e=true:=by rfl):
  SS X (.Assign [.Name x pos'] e pos) (tAsg te (gName j)):=⟨qset hN hi hx he.h hf h⟩
theorem qasgs' {g:TG}{sp2:Pos}(he:SE X e te) (hg:SG X (.Subscript o i sp2) g) (h2:nco e=true:=by rfl):SS X (.Assign [.Subscript o i sp2] e pos) (tAsg te g):=⟨zWk he.h hg.h (zRq h2) (by cases e <;> rfl) rfl⟩
theorem qpar' {x y:Str}{px py pt pt2:Pos}{kt k2 i j:Nat}{ta:TA}(hc:X.calm=true) (hN:X.N.Nodup) (hi:X.N[i]?=some x) (hj:X.N[j]?=some y) (hij:i≠j)
  (hx:X.env.scope.names.lookup x=some .local) (hy:X.env.scope.names.lookup y=some .local) (ha:SA X [a,b] ta)
  (hw:swappedStores [.Tuple [.Name x px,.Name y py] kt pt] (.Tuple [a,b] k2 pt2) X.env=pure (some [x,y])):
  SS X (.Assign [.Tuple [.Name x px,.Name y py] kt pt] (.Tuple [a,b] k2 pt2) pos) (tPar i j ta):=⟨qpar hc hN hi hj hij hx hy ha.h hw⟩
theorem zSg (he:SE X e te):SS X (.Return (some e) pos) (tRet te):=⟨zWg he.h⟩
theorem zWi {ba bb:List Stmt}{t u:TS}(hc:ST X c tA) (ha:SSs X ba t) (hb:SSs X bb u):SS X (.If c ba bb pos) (tIfS tA t u):=⟨yA5 hc.h ha.h hb.h⟩
theorem zKs {body:List Stmt}{t:TS}(hp:PassesOwn (model X.prog X.w) X.A X.env X.xe) (hc:ST X c tA) (hb:SSs X body t):SS X (.While c body [] pos) (zQ8 tA t):=⟨zO7 hp hc.h hb.h⟩
theorem qfor' {tg iter:Expr}{body:List Stmt}{wi:TI}{g:TG}{t:TS}(hp:PassesOwn (model X.prog X.w) X.A X.env X.xe) (hc:X.calm=true) (hi:SI X tg iter wi) (hg:SG X tg g) (hb:SSs X body t) (h:nse iter=true:=by rfl):
  SS X (.For tg iter body [] pos) (tFor wi g t):=⟨qfor hp hc hi.h hg.h hb.h h⟩
theorem qexpr' (he:SE X e te) (h:nco e=true:=by rfl):SS X (.Expr e pos) (zRn te):=⟨qexpr he.h h⟩
theorem pss_nil':SSs X [] zVp:=⟨zSe⟩
theorem zHu {st:Stmt}{t:TS}(h:SS X st t):SSs X [st] t:=⟨zSd h.h⟩
theorem zKr {st:Stmt}{r:List Stmt}{t u:TS}(h1:SS X st t) (h2:SSs X r u):SSs X (st::r) (tSeq t u):=⟨zO6 h1.h h2.h⟩
end
end L2
namespace L2
open PySem PySem.Spec PyProof.Rows
noncomputable def BN (n:Nat) (x:Int):Prop:=x.natAbs<2 ^ n
theorem BN.bits {x:Int}(h:BN 5000 x):Builtin.Int.intBits x<=2 ^ 20:=by
 unfold Builtin.Int.intBits
 split
 ·exact x8 _
 ·rename_i hx
  have h0:x.natAbs≠0:=by
   intro z
   apply hx
   have:x=0:=by nofun
   rw[this];rfl
  have:=(Nat.log2_lt h0).mpr h
  lia
theorem BN.log {x:Int}(h:BN 5000 x):x.natAbs.log2<9000:=by
 by_cases h0:x.natAbs=0
 ·rw[h0];decide +kernel
 ·have:=(Nat.log2_lt h0).mpr h
  lia
section
variable {X:Cx}
theorem zT3:OpR X (binaryOp .Mult) (rI (fun i j=>BN 5000 i/\BN 5000 j) fun i j=>.int (i*j)):=opI fun _ _ _ _ _ _ _ hc q=>mul_int q (IntMulOk.of_bits hc.1.bits hc.2.bits)
theorem zOq:OpR X (binaryOp .FloorDiv) (rI (fun _ j=>j≠0/\BN 5000 j) fun i j=>.int (i.fdiv j)):=opI fun _ _ _ _ _ _ _ hc q=>floordiv_int hc.1 q (.inl (PyProof.noPylong_of_log2 hc.2.log))
end
noncomputable def dv (u l:Int):Int:=if l<0 then -(Int.gcd u l:Int)else(Int.gcd u l:Int)
noncomputable def fN (u l:Int):Int:=u.fdiv (dv u l)
end L2
namespace L2
open PySem PySem.Spec PyProof.Rows
section
variable {X:Cx}{pins:List (Addr × Obj)}{σ:St}{H:Hp}{s:Shared}{h':Heap}
theorem Inv.turnedT {t':Nat}{fp:List Addr}{T:Addr}{o:HO}(I:Inv X pins σ H s) (hf:∀b∈fp,FpOk X pins H b) (k:∀b o,b ∉ fp->s.heap.get? b=some o->h'.get? b=some o) (hT:s.heap.objs.size<=T)
  (new:ObjOk X.prog X.w (upd H T o) h' T o):Inv X pins σ (upd H T o) { s with heap:=h',toks:=t' }:=by
 have hn:=I.hok.fresh hT
 have nit:∀b u,H b=some u->b ∉ fp:=fun b u e z=>by rw[(hf b z).1]at e;cases e
 refine I.step (fun b hb=>⟨(hf b hb).2.2.2.1,(hf b hb).2.1,(hf b hb).2.2.2.2.1,(hf b hb).2.2.2.2.2⟩) (fun b o _ _ hc e _=>k b o hc e) (fun b o _ _ hc e _=>⟨o.slots,k b o hc e⟩)
  (fun b u _ q n=>by rw[zA2 (xt (xv (xj q) hT))];exact n)
  (fun b o hc e=>⟨o,k b o hc e⟩) (fun b xs q=>by rw[zA2 (zA4 q hn)];exact q) (fun b u xs q=>by rw[zA2 (zA4 q hn)];exact q) (fun b ps q=>⟨#[],by rw[zA2 (zA4 q hn),q];simp⟩) (fun m hm=>?_) (fun b u e=>?_) I.bare
 ·obtain⟨o,es,ep,ho,r⟩:=hm
  exact⟨o,es,ep,k _ o (fun z=>(hf _ z).2.1 rfl) ho,r⟩
 ·by_cases hb:b=T
  ·subst hb;rw[zA5]at e;cases e;exact new
  ·rw[zA2 hb]at e
   refine(I.hok b u e).stay (fun c v hc q=>k c v ?_ q) (fun c q=>by rw[zA2 (zA4 q hn)];exact q) fun c xs q=>by rw[zA2 (zA4 q hn)];exact q
   rcases hc with z|z
   ·rw[z];exact nit b u e
   ·exact nit c _ z
theorem Inv.turnedL {t':Nat}{fp:List Addr}(I:Inv X pins σ H s) (hf:∀b∈fp,FpOk X pins H b) (k:∀b o,b ∉ fp->s.heap.get? b=some o->h'.get? b=some o):Inv X pins σ H { s with heap:=h',toks:=t' }:=by
 have nit:∀b u,H b=some u->b ∉ fp:=fun b u e z=>by rw[(hf b z).1]at e;cases e
 refine I.step (fun b hb=>⟨(hf b hb).2.2.2.1,(hf b hb).2.1,(hf b hb).2.2.2.2.1,(hf b hb).2.2.2.2.2⟩) (fun b o _ _ hc e _=>k b o hc e) (fun b o _ _ hc e _=>⟨o.slots,k b o hc e⟩)
  (fun _ _ _ _ n=>n) (fun b o hc e=>⟨o,k b o hc e⟩) (fun _ _ e=>e) (fun _ _ _ e=>e) (fun b ps e=>⟨#[],by rw[e];simp⟩) (fun m hm=>?_) (fun b u e=>?_) I.bare
 ·obtain⟨o,es,ep,ho,r⟩:=hm
  exact⟨o,es,ep,k _ o (fun z=>(hf _ z).2.1 rfl) ho,r⟩
 ·refine(I.hok b u e).stay (fun c v hc q=>k c v ?_ q) (fun _ q=>q) fun _ _ q=>q
  rcases hc with z|z
  ·rw[z];exact nit b u e
  ·exact nit c _ z
end
structure ZipOwn (z TI TO i1 i2:Addr):Prop where
 TIz:TI≠z
 TOz:TO≠z
 i1z:i1≠z
 i2z:i2≠z
 TITO:TI≠TO
 TIi1:TI≠i1
 TIi2:TI≠i2
 TOi1:TO≠i1
 TOi2:TO≠i2
 i12:i1≠i2
theorem ZipOwn.apart {z TI TO i1 i2 a b:Addr}(D:ZipOwn z TI TO i1 i2) (ha:a ∉ [z,TI,TO,i1,i2]) (hb:b ∉ [z,TI,TO,i1,i2]):ZipApart z TI TO i1 i2 a b:=by
 simp only[xk,vI,or_false,not_or]at ha hb
 obtain⟨a1,a2,a3,a4,a5⟩:=ha
 obtain⟨b1,b2,b3,b4,b5⟩:=hb
 exact⟨D.TIz,D.TOz,D.i1z,D.i2z,D.TITO,D.TIi1,D.TIi2,D.TOi1,D.TOi2,D.i12,a1,a3,a4,a5,b1,b3,b4,b5⟩
end L2
namespace TB
open PySem
noncomputable abbrev Up (l:List Nat):Prop:=l.Pairwise (·<·)
theorem zDk {l:List Nat}(h:Up l) {i j:Nat}(hij:i<j) (hj:j<l.length):l[i]'(vF hij hj)<l[j]:=List.pairwise_iff_getElem.mp h i j _ hj hij
theorem zGd:∀(l:List Nat) (a b:Nat),Up l->(∀e,a<=e->e<b->e∈l)->b-a<=l.length
 | [],a,b,_,h=>by
  by_cases c:a<b
  ·exact absurd (h a (xh _) c) (by simp)
  ·simp;lia
 | x::xs,a,b,u,h=>by
  have ux:=vJ.mp u
  by_cases c:a<b
  ·have ha:=h a (xh _) c
   rcases Nat.lt_trichotomy a x with q|q|q
   ·rcases xk.mp ha with z|z
    ·lia
    ·exact absurd (ux.1 a z) (by nofun)
   ·subst q
    have r:=zGd xs (a+1) b ux.2 fun e h1 h2=>by
     rcases xk.mp (h e (by nofun) h2)with z|z
     ·lia
     ·exact z
    simp only[xA];lia
   ·have r:=zGd xs a b ux.2 fun e h1 h2=>by
     rcases xk.mp (h e h1 h2)with z|z
     ·lia
     ·exact z
    simp only[xA];lia
  ·lia
theorem zVh {l:List Nat}{m:Nat}(u:Up l) (h:l.length<=m):∃e,e<=m/\e ∉ l:=by
 refine u3 fun n=>?_
 have r:=zGd l 0 (m+1) u fun e _ h2=>u3 fun q=>n ⟨e,by nofun,q⟩
 lia
theorem zF4 {xs:Array Nat}{j:Nat}(u:Up xs.toList):∀(f lo hi:Nat),hi-lo<=f->lo<=hi->hi<=xs.size->(∀i (q:i<xs.size),i<lo->xs[i]<j)->(∀i (q:i<xs.size),hi<=i->j<=xs[i])->
  (SetTable.below.go xs j f lo hi<=xs.size/\(∀i (q:i<xs.size),i<SetTable.below.go xs j f lo hi->xs[i]<j)/\(∀i (q:i<xs.size),SetTable.below.go xs j f lo hi<=i->j<=xs[i]))
 | 0,lo,hi,h1,h2,h3,h4,h5=>by
  have e:lo=hi:=by nofun
  subst e
  exact⟨h3,h4,h5⟩
 | f+1,lo,hi,h1,h2,h3,h4,h5=>by
  unfold SetTable.below.go
  by_cases c:lo<hi
  ·rw[xc c]
   have hm:(lo+hi) / 2<hi:=by nofun
   have hl:lo<=(lo+hi) / 2:=by nofun
   have hz:(lo+hi) / 2<xs.size:=by nofun
   have eg:xs.getD ((lo+hi) / 2) j=xs[(lo+hi) / 2]:=by simp[Array.getD,hz]
   dsimp only
   rw[eg]
   have rise:∀i k (q:i<xs.size) (r:k<xs.size),i<k->xs[i]<xs[k]:=fun i k q r hik=>by
    have:=zDk u hik (by simpa using r)
    simpa using this
   by_cases d:xs[(lo+hi) / 2]<j
   ·rw[xc d]
    refine zF4 u f _ hi (by nofun) (by nofun) h3 (fun i q hi'=>?_) h5
    rcases vc i ((lo+hi) / 2)with z|z
    ·exact vF (rise _ _ q hz z) d
    ·have:i=(lo+hi) / 2:=by nofun
     subst this;exact d
   ·rw[xf d]
    refine zF4 u f lo _ (by nofun) hl (by nofun) h4 (fun i q hi'=>?_)
    rcases vc ((lo+hi) / 2) i with z|z
    ·have:=rise _ _ hz q z;lia
    ·have:i=(lo+hi) / 2:=by nofun
     subst this;lia
  ·rw[xf c]
   have e:lo=hi:=by nofun
   subst e
   exact⟨h3,h4,h5⟩
theorem zF3 {xs:Array Nat}(j:Nat) (u:Up xs.toList):SetTable.below xs j<=xs.size/\(∀i (q:i<xs.size),i<SetTable.below xs j->xs[i]<j)/\(∀i (q:i<xs.size),SetTable.below xs j<=i->j<=xs[i]):=
 zF4 u xs.size 0 xs.size (by nofun) (by nofun) (xh _) (fun i q h=>by nofun) (fun i q h=>by nofun)
theorem zQ2 {xs:Array Nat}{j k:Nat}(u:Up xs.toList) (hk:k<=xs.size) (h1:∀i (q:i<xs.size),i<k->xs[i]<j) (h2:∀i (q:i<xs.size),k<=i->j<=xs[i]):SetTable.below xs j=k:=by
 obtain⟨a,b,c⟩:=zF3 j u
 rcases Nat.lt_trichotomy (SetTable.below xs j) k with z|z|z
 ·have p:=h1 _ (by nofun) z;have q:=c _ (by nofun) (xh _);lia
 ·exact z
 ·have p:=h2 k (by nofun) (xh _);have q:=b k (by nofun) z;lia
noncomputable def slotAt (xs:Array Nat) (k:Nat):Nat:=if k=0 then 0 else xs.getD (k-1) 0+1
theorem zG8 {xs:Array Nat}{k:Nat}(u:Up xs.toList) (hk:k<=xs.size):SetTable.below xs (slotAt xs k)=k:=by
 have rise:∀i k (q:i<xs.size) (r:k<xs.size),i<k->xs[i]<xs[k]:=fun i k q r hik=>by
  have:=zDk u hik (by simpa using r)
  simpa using this
 refine zQ2 u hk (fun i q h=>?_) (fun i q h=>?_)
 ·unfold slotAt
  rw[xf (by nofun)]
  have hz:k-1<xs.size:=by nofun
  have:xs.getD (k-1) 0=xs[k-1]:=by simp[Array.getD,hz]
  rw[this]
  rcases vc i (k-1)with z|z
  ·have:=rise _ _ q hz z;lia
  ·have:i=k-1:=by nofun
   subst this;lia
 ·unfold slotAt
  by_cases c:k=0
  ·rw[xc c];lia
  ·rw[xf c]
   have hz:k-1<xs.size:=by nofun
   have:xs.getD (k-1) 0=xs[k-1]:=by simp[Array.getD,hz]
   rw[this]
   have:=rise _ _ hz q (by nofun);lia
theorem zCq {α:Type}(xs:Array α) (p:Nat) (x:α):(SetTable.insertAt xs p x).toList=xs.toList.take p++x::xs.toList.drop p:=by
 unfold SetTable.insertAt
 simp[Array.toList_extract]
 exact vW (by simp)
theorem ins_perm {α:Type}(xs:Array α) (p:Nat) (x:α):(SetTable.insertAt xs p x).toList.Perm (x::xs.toList):=by
 rw[zCq]
 exact uP.trans (by rw[List.take_append_drop])
theorem zI5 {α:Type}(xs:Array α) (p:Nat) (x:α):(SetTable.insertAt xs p x).size=xs.size+1:=by
 have:=(ins_perm xs p x).length_eq
 simpa using this
theorem ins_up {xs:Array Nat}{j:Nat}(u:Up xs.toList) (h:xs[SetTable.below xs j]?≠some j):Up (SetTable.insertAt xs (SetTable.below xs j) j).toList:=by
 obtain⟨a,b,c⟩:=zF3 j u
 rw[zCq]
 have h1:∀v∈xs.toList.take (SetTable.below xs j),v<j:=fun v hv=>by
  obtain⟨i,hi,rfl⟩:=vV.mp hv
  rw[vS]at hi
  rw[List.getElem_take]
  have:=b i (by simp at hi;lia) (by nofun)
  simpa using this
 have h2:∀v∈xs.toList.drop (SetTable.below xs j),j<v:=fun v hv=>by
  obtain⟨i,hi,rfl⟩:=vV.mp hv
  rw[vq]at hi
  rw[List.getElem_drop]
  have hz:SetTable.below xs j+i<xs.size:=by simp at hi;lia
  have h3:=c _ hz (by nofun)
  have h4:xs[SetTable.below xs j]'(by nofun)≠j:=fun e=>h (by rw[x3 (by nofun),e])
  have h5:=c (SetTable.below xs j) (by nofun) (xh _)
  have h6:xs[SetTable.below xs j]'(by nofun)<=xs[SetTable.below xs j+i]:=by
   rcases Nat.eq_zero_or_pos i with z|z
   ·subst z;exact xh _
   ·have:=zDk u (i:=SetTable.below xs j) (j:=SetTable.below xs j+i) (by nofun) (by simpa using hz)
    exact vm (by simpa using this)
  simp only[Array.getElem_toList]
  lia
 refine List.pairwise_append.mpr ⟨u.sublist (List.take_sublist _ _),vJ.mpr ⟨fun v hv=>h2 v hv,u.sublist (List.drop_sublist _ _)⟩,fun p hp q hq=>?_⟩
 rcases xk.mp hq with rfl|hq
 ·exact h1 p hp
 ·exact vF (h1 p hp) (h2 q hq)
noncomputable def orb (m:Nat):Nat->Nat × Nat->Nat × Nat
 | 0,x=>x
 | L+1,x=>orb m L (SetTable.leap m x.1 x.2)
noncomputable def gs (m:Nat):Nat->Nat->Nat
 | 0,i=>i
 | k+1,i=>gs m k ((i*5+1) % (m+1))
theorem zI6 (m:Nat):∀(a b i:Nat),gs m (a+b) i=gs m b (gs m a i)
 | 0,b,i=>by rw[Nat.zero_add];rfl
 | a+1,b,i=>by rw[show a+1+b=(a+b)+1 by nofun];exact zI6 m a b _
noncomputable def Msk (m:Nat):Prop:=m∈[7,15,31,63,127,255,511,1023,2047,4095]
noncomputable def gsB (m:Nat):Nat->Nat->Nat->Nat
 | 0,_,a=>a
 | k+1,i,a=>gsB m k ((i*5+1) % (m+1)) (a ||| 2 ^ i)
theorem zQw (m:Nat):∀(n i a e:Nat),(gsB m n i a).testBit e=true->a.testBit e=true\/∃k,k<n/\gs m k i=e
 | 0,i,a,e,h=>.inl h
 | n+1,i,a,e,h=>by
  rcases zQw m n _ _ e h with z|⟨k,hk,z⟩
  ·rw[Nat.testBit_or,Bool.or_eq_true]at z
   rcases z with z|z
   ·exact .inl z
   ·rw[Nat.testBit_two_pow]at z
    exact .inr ⟨0,by nofun,uQ z⟩
  ·exact .inr ⟨k+1,by nofun,z⟩
theorem zY9 {m:Nat}(h:Msk m):gs m (m+1) 0=0/\∀e,e<m+1->∃k,k<m+1/\gs m k 0=e:=by
 have t:∀(M:Nat),(gs M (M+1) 0 == 0 && gsB M (M+1) 0 0 == 2 ^ (M+1)-1)=true->gs M (M+1) 0=0/\∀e,e<M+1->∃k,k<M+1/\gs M k 0=e:=fun M hh=>by
  rw[xm]at hh
  refine⟨by simpa using hh.1,fun e he=>?_⟩
  have hb:gsB M (M+1) 0 0=2 ^ (M+1)-1:=by simpa using hh.2
  rcases zQw M (M+1) 0 0 e (by rw[hb,Nat.testBit_two_pow_sub_one];exact xo he)with z|z
  ·rw[Nat.zero_testBit]at z;cases z
  ·exact z
 have al:∀m∈[7,15,31,63,127,255,511,1023,2047,4095],(gs m (m+1) 0 == 0 && gsB m (m+1) 0 0 == 2 ^ (m+1)-1)=true:=by decide +kernel
 exact t m (al m h)
theorem zY8 {m i e:Nat}(h:Msk m) (hi:i<m+1) (he:e<m+1):∃k,k<=m/\gs m k i=e:=by
 obtain⟨z,al⟩:=zY9 h
 obtain⟨a,ha,rfl⟩:=al i hi
 obtain⟨b,hb,rfl⟩:=al e he
 rcases vc b a with c|c
 ·refine⟨m+1-a+b,by nofun,?_⟩
  rw[<- zI6,show a+(m+1-a+b)=(m+1)+b by nofun,zI6,z]
 ·exact⟨b-a,by nofun,by rw[<- zI6,show a+(b-a)=b by nofun]⟩
theorem zL8 (m:Nat):∀(a b:Nat) (x:Nat × Nat),orb m (a+b) x=orb m b (orb m a x)
 | 0,b,x=>by rw[Nat.zero_add];rfl
 | a+1,b,x=>by rw[show a+1+b=(a+b)+1 by nofun];exact zL8 m a b _
theorem zL7 (m:Nat):∀(L:Nat) (x:Nat × Nat),(orb m L x).2=x.2 / 32 ^ L
 | 0,x=>by simp[orb]
 | L+1,x=>by
  show(orb m L _).2=_
  rw[zL7 m L]
  show x.2 / 32 / 32 ^ L=_
  rw[Nat.div_div_eq_div_mul,Nat.pow_succ,Nat.mul_comm]
theorem zQg {m:Nat}:∀(L:Nat) (x:Nat × Nat),x.1<m+1->(orb m L x).1<m+1
 | 0,x,h=>h
 | L+1,x,h=>zQg L _ (vD _ (by nofun))
theorem zQh (m:Nat):∀(k:Nat) (x:Nat × Nat),x.2=0->(orb m k x).1=gs m k x.1
 | 0,x,h=>rfl
 | k+1,x,h=>by
  show(orb m k (SetTable.leap m x.1 x.2)).1=gs m k _
  rw[zQh m k _ (by show x.2 / 32=0;rw[h])]
  show gs m k ((x.1*5+1+x.2 / 32) % (m+1))=_
  rw[h]
theorem zGj {m i p e:Nat}(h:Msk m) (hi:i<m+1) (hp:p<2 ^ 64) (he:e<m+1):∃L,L<=13+m/\(orb m L (i,p)).1=e:=by
 obtain⟨k,hk,ek⟩:=zY8 h (zQg 13 (i,p) hi) he
 have h0:(orb m 13 (i,p)).2=0:=by rw[zL7];exact Nat.div_eq_of_lt (vF hp (by decide))
 exact⟨13+k,by nofun,by rw[zL8,zQh m k _ h0,ek]⟩
end TB
namespace TB
open PySem
noncomputable def adv (t:SetTable):Nat->SetTable.Probe->SetTable.Probe
 | 0,p=>p
 | m+1,p=>adv t m (t.advance p)
theorem zBf (t:SetTable):∀(a b:Nat) (p:SetTable.Probe),adv t (a+b) p=adv t b (adv t a p)
 | 0,b,p=>by rw[Nat.zero_add];rfl
 | a+1,b,p=>by rw[show a+1+b=(a+b)+1 by nofun];exact zBf t a b _
theorem zGa (t:SetTable):∀(m:Nat) (p:SetTable.Probe),(adv t m p).dummy=p.dummy
 | 0,p=>rfl
 | m+1,p=>by
  show(adv t m (t.advance p)).dummy=_
  rw[zGa t m]
  unfold SetTable.advance
  split <;> rfl
noncomputable def beg (t:SetTable) (x:Nat × Nat) (d:Option Nat):SetTable.Probe:={ j:=x.1,more:=SetTable.runEnd t.mask x.1-x.1,i:=x.1,perturb:=x.2,dummy:=d }
theorem zF6 (t:SetTable):∀(c:Nat) (p:SetTable.Probe),p.more=c->adv t (c+1) p=beg t (SetTable.leap t.mask p.i p.perturb) p.dummy
 | 0,p,h=>by
  show t.advance p=_
  unfold SetTable.advance
  rw[xf (by nofun)]
  rfl
 | c+1,p,h=>by
  show adv t (c+1) (t.advance p)=_
  have e:t.advance p={ p with j:=p.j+1,more:=p.more-1 }:=by
   unfold SetTable.advance
   rw[xc (by nofun)]
  rw[e]
  exact zF6 t c _ (by show p.more-1=c;lia)
theorem zV8 (t:SetTable) (x:Nat × Nat) (d:Option Nat):∃c,1<=c/\c<=10/\adv t c (beg t x d)=beg t (SetTable.leap t.mask x.1 x.2) d:=by
 refine⟨SetTable.runEnd t.mask x.1-x.1+1,by nofun,?_,zF6 t _ (beg t x d) rfl⟩
 unfold SetTable.runEnd
 split <;> lia
theorem zNb (t:SetTable) (d:Option Nat):∀(L:Nat) (x:Nat × Nat),∃c,c<=10*L/\adv t c (beg t x d)=beg t (orb t.mask L x) d
 | 0,x=>⟨0,by nofun,rfl⟩
 | L+1,x=>by
  obtain⟨c,_,h1,e1⟩:=zV8 t x d
  obtain⟨c',h2,e2⟩:=zNb t d L (SetTable.leap t.mask x.1 x.2)
  refine⟨c+c',by nofun,?_⟩
  rw[zBf,e1,e2]
  rfl
theorem zH9 (h:Int):SetTable.bits h<2 ^ 64:=by
 unfold SetTable.bits
 have:=uf h (show(0:Int)<2 ^ 64 by decide)
 have:=ug h (show(2 ^ 64:Int)≠0 by decide)
 lia
theorem zK8 {t:SetTable}{h:Int}{e:Nat}(hm:Msk t.mask) (he:e<=t.mask):∃c,c<10*SetTable.turns t.mask/\(adv t c (t.probeStart h)).j=e:=by
 obtain⟨L,hL,eL⟩:=zGj hm (vD _ (by nofun)) (zH9 h) (show e<t.mask+1 by nofun)
 obtain⟨c,hc,ec⟩:=zNb t none L (SetTable.bits h % (t.mask+1),SetTable.bits h)
 refine⟨c,by unfold SetTable.turns;lia,?_⟩
 have e0:t.probeStart h=beg t (SetTable.bits h % (t.mask+1),SetTable.bits h) none:=rfl
 rw[e0,ec]
 exact eL
noncomputable def Far (t:SetTable) (p:SetTable.Probe) (m:Nat):Prop:=t.slot (adv t m p).j=.empty/\p.dummy=none
theorem zBg {t:SetTable}(hd:t.dummies=#[]) (j:Nat):t.slot j=(if t.place[SetTable.below t.place j]? == some j then .live (SetTable.below t.place j)else .empty):=by
 have e:SetTable.has t.dummies j=false:=by rw[hd];rfl
 unfold SetTable.slot
 simp only[e]
 simp
theorem zCb {t:SetTable}(hd:t.dummies=#[]) {j:Nat}:t.slot j=.empty <-> t.place[SetTable.below t.place j]?≠some j:=by
 rw[zBg hd]
 by_cases c:t.place[SetTable.below t.place j]?=some j
 ·simp[c]
 ·simp[c]
theorem Msk.le {m:Nat}(h:Msk m):7<=m:=(by decide:∀m∈[7,15,31,63,127,255,511,1023,2047,4095],7<=m) _ h
structure Tab (t:SetTable) (n:Nat) (led:Bool):Prop where
 hm:Msk t.mask
 size:t.place.size=n
 nod:t.dummies=#[]
 up:Up t.place.toList
 room:n*5<t.mask*3
 plain:t.plain=true
 led:t.led=led
theorem Tab.fill {t:SetTable}{n:Nat}{b:Bool}(T:Tab t n b):t.fill=n:=by unfold SetTable.fill;rw[T.size,T.nod];rfl
theorem Tab.fits {t:SetTable}{n:Nat}{b:Bool}(T:Tab t n b):(t.place.size != n || decide (t.fill > t.mask))=false:=by
 have:=T.room
 rw[T.fill,T.size]
 simp;lia
theorem Tab.way {t:SetTable}{n:Nat}{b:Bool}(T:Tab t n b):t.gaveWay=false:=by
 unfold SetTable.gaveWay
 exact(by decide:∀m∈[7,15,31,63,127,255,511,1023,2047,4095],(m % 2 == 0)=false) _ T.hm
theorem Tab.start {t:SetTable}{n:Nat}{b:Bool}(T:Tab t n b) (h:Int):∃m,m<10*SetTable.turns t.mask/\Far t (t.probeStart h) m:=by
 have hn:t.place.toList.length<=t.mask:=by have:=T.room;have:=T.size;simp;lia
 obtain⟨e,he,hne⟩:=zVh T.up hn
 obtain⟨c,hc,ec⟩:=zK8 T.hm he
 refine⟨c,hc,?_,rfl⟩
 rw[ec,zCb T.nod]
 intro q
 exact hne (by
  obtain⟨hz,e'⟩:=x4.mp q
  rw[<- e']
  simp)
theorem Tab.turns {t:SetTable}{n:Nat}{b:Bool}(T:Tab t n b):10*SetTable.turns t.mask<100000:=by
 exact(by decide:∀m∈[7,15,31,63,127,255,511,1023,2047,4095],10*SetTable.turns m<100000) _ T.hm
theorem zM5 (b:Bool):Tab (SetTable.fresh 0 0 b) 0 b:=⟨.head _,rfl,rfl,.nil,(show 0*5<7*3 by decide),rfl,rfl⟩
structure TabP (t:SetTable) (n:Nat) (led:Bool):Prop where
 hm:Msk t.mask
 size:t.place.size=n
 nod:t.dummies=#[]
 up:Up t.place.toList
 most:(n-1)*5<t.mask*3
 plain:t.plain=true
 led:t.led=led
theorem Tab.put {t:SetTable}{n j:Nat}{b:Bool}(T:Tab t n b) (hj:t.slot j=.empty):TabP (t.put j).1 (n+1) b:=by
 have e:SetTable.has t.dummies j=false:=by rw[T.nod];rfl
 have e2:(t.put j).1={ t with place:=SetTable.insertAt t.place (SetTable.below t.place j) j }:=by
  unfold SetTable.put
  simp[e]
 rw[e2]
 exact⟨T.hm,by show(SetTable.insertAt _ _ _).size=_;rw[zI5,T.size],T.nod,ins_up T.up ((zCb T.nod).mp hj),by show(n+1-1)*5<t.mask*3;have:=T.room;simpa using this,T.plain,T.led⟩
theorem TabP.fill {t:SetTable}{n:Nat}{b:Bool}(T:TabP t n b):t.fill=n:=by unfold SetTable.fill;rw[T.size,T.nod];rfl
theorem TabP.tab {t:SetTable}{n:Nat}{b:Bool}(T:TabP t n b) (h:t.tooFull=false):Tab t n b:=by
 refine⟨T.hm,T.size,T.nod,T.up,?_,T.plain,T.led⟩
 unfold SetTable.tooFull at h
 rw[T.fill]at h
 simpa using h
theorem TabP.fits {t:SetTable}{n:Nat}{b:Bool}(T:TabP t n b):(t.place.size != n || decide (t.fill > t.mask))=false:=by
 have h:=T.most
 have hm:=Msk.le T.hm
 rw[T.fill,T.size]
 simp;lia
theorem zEo {m:Nat}{owner:Array (Option Nat)}{e:Nat}(ho:owner.getD e (some 0)=none):∀(L f:Nat) (x:Nat × Nat),L<f->(orb m L x).1=e->∃j,SetTable.layClean.free m owner f x.1 x.2=some j/\owner.getD j (some 0)=none
 | L,0,x,h,_=>by nofun
 | L,f+1,x,h,he=>by
  unfold SetTable.layClean.free
  cases hf:(List.range (SetTable.runEnd m x.1+1-x.1)).find? fun k=>(owner.getD (x.1+k) (some 0)).isNone with
  | some k=>
   have:=List.find?_some hf
   exact⟨x.1+k,rfl,by simpa using this⟩
  | none=>
   cases L with
   | zero=>
    have hx:x.1=e:=he
    have:=List.find?_eq_none.mp hf 0 (vy.mpr (by unfold SetTable.runEnd;split <;> lia))
    rw[Nat.add_zero,hx,ho]at this
    exact absurd rfl this
   | succ L=>exact zEo ho L f (SetTable.leap m x.1 x.2) (by nofun) he
theorem zGl:∀(l:List (Option Nat)),(l.filterMap id).length<l.length->∃e,e<l.length/\l[e]?=some none
 | [],h=>by simp at h
 | none::l,_=>⟨0,by simp,rfl⟩
 | some v::l,h=>by
  obtain⟨e,h1,h2⟩:=zGl l (by simpa using h)
  exact⟨e+1,by simp;lia,by simpa using h2⟩
theorem zEc:∀(l:List (Option Nat)) (j k:Nat),l[j]?=some none->((l.set j (some k)).filterMap id).Perm (k::l.filterMap id)
 | [],j,k,h=>by simp at h
 | x::l,0,k,h=>by
  have:x=none:=by simpa using h
  subst this
  simp
 | x::l,j+1,k,h=>by
  have ih:=zEc l j k (by simpa using h)
  cases x with
  | none=>simpa using ih
  | some v=>
   simp only[List.set_cons_succ,vP,id]
   exact(List.Perm.cons v ih).trans (List.Perm.swap _ _ _)
noncomputable def Laid (m:Nat) (acc:Option (Array (Option Nat) × Nat)) (k:Nat):Prop:=∃owner,acc=some (owner,k)/\owner.size=m+1/\(owner.toList.filterMap id).Perm (List.range k)
theorem zLp {m k:Nat}(hm:Msk m) (hk:k<=m) {owner:Array (Option Nat)}(hs:owner.size=m+1) (hp:(owner.toList.filterMap id).Perm (List.range k)) (h:Int):
  ∃j,SetTable.layClean.free m owner (SetTable.turns m) (SetTable.bits h % (m+1)) (SetTable.bits h)=some j/\Laid m (some (owner.setIfInBounds j (some k),k+1)) (k+1):=by
 obtain⟨e,h1,h2⟩:=zGl owner.toList (by rw[hp.length_eq,uh];simp[hs];lia)
 have h1':e<owner.size:=by simpa using h1
 have ho:owner.getD e (some 0)=none:=by
  have:owner[e]?=some none:=by simpa using h2
  simp[vx,this]
 obtain⟨L,hL,eL⟩:=zGj hm (vD _ (by nofun)) (zH9 h) (show e<m+1 by nofun)
 obtain⟨j,ej,hj⟩:=zEo ho L (SetTable.turns m) (SetTable.bits h % (m+1),SetTable.bits h) (by unfold SetTable.turns;lia) eL
 refine⟨j,ej,_,rfl,by simpa using hs,?_⟩
 have hj2:owner.toList[j]?=some none:=by
  rw[vx]at hj
  cases hq:owner[j]? with
  | none=>rw[hq]at hj;cases hj
  | some v=>rw[hq]at hj;have:=hj;subst this;simpa using hq
 rw[Array.toList_setIfInBounds]
 refine(zEc _ j k hj2).trans ((List.Perm.cons k hp).trans ?_)
 rw[List.range_succ]
 exact(List.perm_append_singleton k (List.range k)).symm
theorem zI1 {m:Nat}(hm:Msk m):∀(hs:List Int) (k:Nat) (acc:Option (Array (Option Nat) × Nat)),k+hs.length<=m+1->Laid m acc k->
  Laid m (hs.foldl (fun acc h=>do
   let (owner,k) <- acc
   let j <- SetTable.layClean.free m owner (SetTable.turns m) (SetTable.bits h % (m+1)) (SetTable.bits h)
   pure (owner.setIfInBounds j (some k),k+1)) acc) (k+hs.length)
 | [],k,acc,_,L=>L
 | h::hs,k,acc,hl,⟨owner,ea,h1,h2⟩=>by
  subst ea
  obtain⟨j,ej,L⟩:=zLp hm (by simp at hl;lia) h1 h2 h
  have:=zI1 hm hs (k+1) _ (by simp at hl;lia) L
  rw[uR]
  have e2:(do
   let (owner,k) <- some (owner,k)
   let j <- SetTable.layClean.free m owner (SetTable.turns m) (SetTable.bits h % (m+1)) (SetTable.bits h)
   pure (owner.setIfInBounds j (some k),k+1))=some (owner.setIfInBounds j (some k),k+1):=by
   show(SetTable.layClean.free m owner (SetTable.turns m) (SetTable.bits h % (m+1)) (SetTable.bits h) >>= fun j=>pure (owner.setIfInBounds j (some k),k+1))=_
   rw[ej];rfl
  rw[e2,xA,show k+(hs.length+1)=k+1+hs.length by nofun]
  exact this
theorem zHz:∀(l:List (Option Nat)) (g:Nat->Nat),((List.range l.length).filterMap fun j=>((l[j]?).getD none).map fun v=>(g j,v)).map (·.2)=l.filterMap id
 | [],g=>rfl
 | x::l,g=>by
  have ih:=zHz l (fun j=>g (j+1))
  rw[xA,List.range_succ_eq_map,vP]
  have e:((List.map Nat.succ (List.range l.length)).filterMap fun j=>(((x::l)[j]?).getD none).map fun v=>(g j,v))=(List.range l.length).filterMap fun j=>((l[j]?).getD none).map fun v=>(g (j+1),v):=by
   rw[List.filterMap_map];rfl
  cases x with
  | none=>simp only[u6,Option.getD_some,Option.map_none];rw[e,ih];rfl
  | some v=>simp only[u6,Option.getD_some,vX,xx];rw[e,ih];rfl
theorem zGo (f:Nat->Option Nat):∀(l:List Nat),Up l->Up ((l.filterMap fun j=>(f j).map fun v=>(j,v)).map (·.1))
 | [],_=>.nil
 | x::l,u=>by
  have ux:=vJ.mp u
  rw[vP]
  cases hx:f x with
  | none=>exact zGo f l ux.2
  | some v=>
   simp only[vX,xx]
   refine vJ.mpr ⟨fun y hy=>?_,zGo f l ux.2⟩
   obtain⟨q,hq,rfl⟩:=xB.mp hy
   obtain⟨z,hz,ez⟩:=uv.mp hq
   cases hf:f z with
   | none=>rw[hf]at ez;cases ez
   | some w=>rw[hf]at ez;cases ez;exact ux.1 _ hz
theorem zTl {m:Nat}(hm:Msk m) {hs:Array Int}(hl:hs.size<=m) (hr:hs.size*5<m*3) (fing moves:Nat) (led:Bool):∃t order,SetTable.laid m fing moves led true hs=some (t,order)/\Tab t hs.size led/\order.toList.Perm (List.range hs.size):=by
 obtain⟨owner,e,h1,h2⟩:=zI1 hm hs.toList 0 (some (Array.replicate (m+1) none,0)) (by simp;lia) ⟨_,rfl,by simp,by simp⟩
 have ec:SetTable.layClean m hs=some owner:=by
  unfold SetTable.layClean
  rw[<- Array.foldl_toList,e]
  rfl
 have es:=zHz owner.toList id
 have eg:∀j,(owner.getD j none).map (j,·)=((owner.toList[j]?).getD none).map fun v=>(id j,v):=fun j=>by
  rw[vx];simp
 refine⟨_,_,by unfold SetTable.laid;rw[ec];rfl,⟨hm,?_,rfl,?_,hr,rfl,rfl⟩,?_⟩
 ·show(List.map _ _).toArray.size=_
  rw[xu,xq,<- xq]
  rw[<- h1] 
  rw[show owner.size=owner.toList.length by simp]
  simp only[eg]
  rw[es,h2.length_eq]
  simp
 ·show Up (List.map _ _).toArray.toList
  exact zGo _ _ (List.pairwise_lt_range)
 ·show(List.map _ _).toArray.toList.Perm _
  rw[<- h1,show owner.size=owner.toList.length by simp]
  simp only[eg]
  rw[List.toList_toArray,es]
  simpa using h2
structure TabW (t:SetTable) (n:Nat) (led:Bool):Prop where
 size:t.place.size=n
 up:Up t.place.toList
 fit:t.fill<=t.mask
 plain:t.plain=true
 led:t.led=led
theorem Tab.w {t:SetTable}{n:Nat}{b:Bool}(T:Tab t n b):TabW t n b:=⟨T.size,T.up,by have:=T.room;rw[T.fill];lia,T.plain,T.led⟩
theorem TabW.ft {t:SetTable}{n:Nat}{b:Bool}(T:TabW t n b):t.fits n=true:=by
 unfold SetTable.fits
 rw[T.size,xo T.fit];simp
end TB
namespace TB
open PySem
theorem zC9 {t t':SetTable}(h:t.mask=t'.mask):∀(m:Nat) (p:SetTable.Probe),adv t m p=adv t' m p
 | 0,_=>rfl
 | m+1,p=>by
  show adv t m (t.advance p)=adv t' m (t'.advance p)
  have e:t.advance p=t'.advance p:=by unfold SetTable.advance;rw[h]
  rw[e];exact zC9 h m _
theorem zBn {t t':SetTable}(h:t.mask=t'.mask) (x:Int):t.probeStart x=t'.probeStart x:=by unfold SetTable.probeStart;rw[h]
theorem zOx {xs:Array Nat}{j:Nat}(u:Up xs.toList):xs[SetTable.below xs j]?=some j <-> j∈xs.toList:=by
 constructor
 ·intro h
  obtain⟨z,e⟩:=x4.mp h
  rw[<- e];simp
 ·intro h
  obtain⟨i,hi,e⟩:=vV.mp h
  have hi':i<xs.size:=by simpa using hi
  have e':xs[i]=j:=by simpa using e
  obtain⟨a,b,c⟩:=zF3 j u
  have h1:¬ i<SetTable.below xs j:=fun q=>by have:=b i hi' q;lia
  have h2:¬ SetTable.below xs j<i:=fun q=>by
   have h3:=c _ (by nofun) (xh _)
   have:=zDk u q (by simpa using hi')
   have:xs[SetTable.below xs j]'(by nofun)<xs[i]:=by simpa using this
   lia
  have h3:SetTable.below xs j=i:=by nofun
  rw[h3,x3 hi',e']
theorem zFs {t:SetTable}{n:Nat}{b:Bool}(T:Tab t n b) (j:Nat):t.slot j=.empty <-> j ∉ t.place.toList:=by
 rw[zCb T.nod,ne_eq,zOx T.up]
noncomputable def Chn (t:SetTable) (h:Int) (j:Nat):Prop:=∃m,(adv t m (t.probeStart h)).j=j/\∀m',m'<m->(adv t m' (t.probeStart h)).j∈t.place.toList
noncomputable def Chs (t:SetTable) (hs:List Int):Prop:=∀q∈t.place.toList.zip hs,Chn t q.2 q.1
theorem Chn.grow {t t':SetTable}{h:Int}{j:Nat}(c:Chn t h j) (hm:t.mask=t'.mask) (hp:∀j∈t.place.toList,j∈t'.place.toList):Chn t' h j:=by
 obtain⟨m,e,al⟩:=c
 refine⟨m,by rw[<- zBn hm,<- zC9 hm];exact e,fun m' hm'=>?_⟩
 rw[<- zBn hm,<- zC9 hm]
 exact hp _ (al m' hm')
theorem zJv {α β:Type}:∀(p:Nat) (a:List α) (b:List β) (x:α) (y:β),a.length=b.length->∀q∈(a.take p++x::a.drop p).zip (b.take p++y::b.drop p),q=(x,y)\/q∈a.zip b
 | 0,a,b,x,y,h,q,hq=>by
  simp only[List.take_zero,vY,List.drop_zero,vZ]at hq
  exact xk.mp hq
 | p+1,[],[],x,y,h,q,hq=>by
  simp at hq
  exact .inl hq
 | p+1,c::a,d::b,x,y,h,q,hq=>by
  simp only[List.take_succ_cons,List.drop_succ_cons,List.cons_append,vZ]at hq
  rcases xk.mp hq with rfl|hq
  ·exact .inr (xN)
  ·rcases zJv p a b x y (by simpa using h) q hq with z|z
   ·exact .inl z
   ·exact .inr (xX _ z)
 | p+1,[],_::_,x,y,h,q,hq=>by simp at h
 | p+1,_::_,[],x,y,h,q,hq=>by simp at h
theorem zSa {t:SetTable}{n j M:Nat}{b:Bool}{hs:List Int}{h:Int}(T:Tab t n b) (hn:hs.length=n) (C:Chs t hs) (hj:t.slot j=.empty) (hM:(adv t M (t.probeStart h)).j=j) (al:∀m',m'<M->(adv t m' (t.probeStart h)).j∈t.place.toList):
  Chs (t.put j).1 (hs.take (t.put j).2++h::hs.drop (t.put j).2)/\(t.put j).2=SetTable.below t.place j:=by
 have e:SetTable.has t.dummies j=false:=by rw[T.nod];rfl
 have e2:t.put j=({ t with place:=SetTable.insertAt t.place (SetTable.below t.place j) j },SetTable.below t.place j):=by
  unfold SetTable.put
  simp[e]
 rw[e2]
 have pl:({ t with place:=SetTable.insertAt t.place (SetTable.below t.place j) j }:SetTable).place.toList=t.place.toList.take (SetTable.below t.place j)++j::t.place.toList.drop (SetTable.below t.place j):=zCq _ _ _
 have sub:∀i∈t.place.toList,i∈({ t with place:=SetTable.insertAt t.place (SetTable.below t.place j) j }:SetTable).place.toList:=fun i hi=>(ins_perm t.place _ j).mem_iff.mpr (xX _ hi)
 refine⟨fun q hq=>?_,rfl⟩
 rw[pl]at hq
 rcases zJv _ _ _ _ _ (by simp[T.size,hn]) q hq with rfl|z
 ·exact Chn.grow ⟨M,hM,al⟩ rfl sub
 ·exact(C q z).grow rfl sub
theorem zIt (t:SetTable):∀(c:Nat) (p:SetTable.Probe),c<=p.more->(adv t c p).j=p.j+c
 | 0,p,_=>rfl
 | c+1,p,h=>by
  show(adv t c (t.advance p)).j=_
  have e:t.advance p={ p with j:=p.j+1,more:=p.more-1 }:=by
   unfold SetTable.advance
   rw[xc (by nofun)]
  rw[e,zIt t c _ (by show c<=p.more-1;lia)]
  show p.j+1+c=p.j+(c+1)
  lia
theorem zI8 {t:SetTable}{owner:Array (Option Nat)}:∀(f:Nat) (x:Nat × Nat) (j:Nat),SetTable.layClean.free t.mask owner f x.1 x.2=some j->
  ∃m,(adv t m (beg t x none)).j=j/\∀m',m'<m->owner.getD (adv t m' (beg t x none)).j (some 0)≠none
 | 0,x,j,h=>by cases h
 | f+1,x,j,h=>by
  unfold SetTable.layClean.free at h
  have rl:SetTable.runEnd t.mask x.1+1-x.1=(beg t x none).more+1:=by
   show _=SetTable.runEnd t.mask x.1-x.1+1
   unfold SetTable.runEnd;split <;> lia
  rw[rl]at h
  cases hf:(List.range ((beg t x none).more+1)).find? fun k=>(owner.getD (x.1+k) (some 0)).isNone with
  | some k=>
   rw[hf]at h
   have ej:=xD h
   obtain⟨h1,h2,h3⟩:=List.find?_range_eq_some.mp hf
   have hk:=vy.mp h2
   refine⟨k,by rw[zIt t k _ (by nofun)];exact ej,fun m' hm'=>?_⟩
   rw[zIt t m' _ (by nofun)]
   have:=h3 m' hm'
   intro z
   have z':owner.getD (x.1+m') (some 0)=none:=z
   rw[z']at this
   simp at this
  | none=>
   rw[hf]at h
   obtain⟨m,e,al⟩:=zI8 f (SetTable.leap t.mask x.1 x.2) j h
   refine⟨(beg t x none).more+1+m,by rw[zBf,zF6 t _ _ rfl];exact e,fun m' hm'=>?_⟩
   rcases vc m' ((beg t x none).more+1)with z|z
   ·rw[zIt t m' _ (by nofun)]
    have:=List.find?_eq_none.mp hf m' (vy.mpr z)
    intro w
    have w':owner.getD (x.1+m') (some 0)=none:=w
    rw[w']at this
    simp at this
   ·obtain⟨c,rfl⟩:∃c,m'=(beg t x none).more+1+c:=⟨m' - ((beg t x none).more+1),by nofun⟩
    rw[zBf,zF6 t _ _ rfl]
    exact al c (by nofun)
end TB
namespace TB
open PySem
theorem zQd (m i:Nat) (h:i<=m):SetTable.runEnd m i<=m:=by unfold SetTable.runEnd;split <;> lia
theorem zQe (m i:Nat):i<=SetTable.runEnd m i:=by unfold SetTable.runEnd;split <;> lia
theorem zRe (t:SetTable):∀(m:Nat) (p:SetTable.Probe),p.j+p.more<=t.mask->(adv t m p).j<=t.mask
 | 0,p,h=>by show p.j<=_;lia
 | m+1,p,h=>by
  refine zRe t m (t.advance p) ?_
  unfold SetTable.advance
  by_cases c:p.more > 0
  ·rw[xc c];show p.j+1+(p.more-1)<=_;lia
  ·rw[xf c]
   have:(p.i*5+1+p.perturb / 32) % (t.mask+1)<t.mask+1:=vD _ (by nofun)
   show(p.i*5+1+p.perturb / 32) % (t.mask+1)+(SetTable.runEnd t.mask ((p.i*5+1+p.perturb / 32) % (t.mask+1))-(p.i*5+1+p.perturb / 32) % (t.mask+1))<=t.mask
   have a:=zQd t.mask ((p.i*5+1+p.perturb / 32) % (t.mask+1)) (by nofun)
   have b:=zQe t.mask ((p.i*5+1+p.perturb / 32) % (t.mask+1))
   lia
theorem zNm (t:SetTable) (h:Int) (m:Nat):(adv t m (t.probeStart h)).j<=t.mask:=by
 refine zRe t m _ ?_
 have:SetTable.bits h % (t.mask+1)<t.mask+1:=vD _ (by nofun)
 show SetTable.bits h % (t.mask+1)+(SetTable.runEnd t.mask (SetTable.bits h % (t.mask+1))-SetTable.bits h % (t.mask+1))<=t.mask
 have a:=zQd t.mask (SetTable.bits h % (t.mask+1)) (by nofun)
 have b:=zQe t.mask (SetTable.bits h % (t.mask+1))
 lia
noncomputable def OwnC (t:SetTable) (hs:List Int) (owner:Array (Option Nat)):Prop:=∀j v,owner[j]?=some (some v)->∃m,(adv t m (t.probeStart (hs.getD v 0))).j=j/\∀m',m'<m->owner.getD (adv t m' (t.probeStart (hs.getD v 0))).j (some 0)≠none
noncomputable def zV9 (t:SetTable) (hs:List Int) (acc:Option (Array (Option Nat) × Nat)) (k:Nat):Prop:=∃owner,acc=some (owner,k)/\owner.size=t.mask+1/\(owner.toList.filterMap id).Perm (List.range k)/\OwnC t hs owner
theorem zJa {t:SetTable}{hs:List Int}{k:Nat}(hm:Msk t.mask) (hk:k<=t.mask) {owner:Array (Option Nat)}(hz:owner.size=t.mask+1) (hp:(owner.toList.filterMap id).Perm (List.range k)) (C:OwnC t hs owner) {h:Int}(eh:hs.getD k 0=h):
  ∃j,SetTable.layClean.free t.mask owner (SetTable.turns t.mask) (SetTable.bits h % (t.mask+1)) (SetTable.bits h)=some j/\zV9 t hs (some (owner.setIfInBounds j (some k),k+1)) (k+1):=by
 obtain⟨e,h1,h2⟩:=zGl owner.toList (by rw[hp.length_eq,uh];simp[hz];lia)
 have h1':e<owner.size:=by simpa using h1
 have ho:owner.getD e (some 0)=none:=by
  have:owner[e]?=some none:=by simpa using h2
  simp[vx,this]
 obtain⟨L,hL,eL⟩:=zGj hm (vD _ (by nofun)) (zH9 h) (show e<t.mask+1 by nofun)
 obtain⟨j,ej,hj⟩:=zEo ho L (SetTable.turns t.mask) (SetTable.bits h % (t.mask+1),SetTable.bits h) (by unfold SetTable.turns;lia) eL
 have hj1:owner[j]?=some none:=by
  rw[vx]at hj
  cases hq:owner[j]? with
  | none=>rw[hq]at hj;cases hj
  | some v=>rw[hq]at hj;have:=hj;subst this;rfl
 have hj2:owner.toList[j]?=some none:=by simpa using hj1
 have hjz:=(x4.mp hj1).1
 have gd:∀i,owner.getD i (some 0)≠none->(owner.setIfInBounds j (some k)).getD i (some 0)≠none:=fun i hi=>by
  rw[vx]at hi ⊢
  rw[Array.getElem?_setIfInBounds]
  by_cases c:j=i
  ·rw[xc c];split <;> simp
  ·rw[xf c];exact hi
 refine⟨j,ej,_,rfl,by simpa using hz,?_,fun i v hv=>?_⟩
 ·rw[Array.toList_setIfInBounds]
  refine(zEc _ j k hj2).trans ((List.Perm.cons k hp).trans ?_)
  rw[List.range_succ]
  exact(List.perm_append_singleton k (List.range k)).symm
 ·rw[Array.getElem?_setIfInBounds]at hv
  by_cases c:j=i
  ·rw[xc c,xc hjz]at hv
   have ev:k=v:=by simpa using hv
   subst ev c
   obtain⟨m,em,al⟩:=zI8 _ (SetTable.bits h % (t.mask+1),SetTable.bits h) j ej
   rw[eh]
   exact⟨m,em,fun m' hm'=>gd _ (al m' hm')⟩
  ·rw[xf c]at hv
   obtain⟨m,em,al⟩:=C i v hv
   exact⟨m,em,fun m' hm'=>gd _ (al m' hm')⟩
theorem zFk {t:SetTable}(hm:Msk t.mask) (hs0:List Int):∀(hs:List Int) (k:Nat) (acc:Option (Array (Option Nat) × Nat)),k+hs.length<=t.mask+1->(∀i,hs.getD i 0=hs0.getD (k+i) 0)->zV9 t hs0 acc k->
  zV9 t hs0 (hs.foldl (fun acc h=>do
   let (owner,k) <- acc
   let j <- SetTable.layClean.free t.mask owner (SetTable.turns t.mask) (SetTable.bits h % (t.mask+1)) (SetTable.bits h)
   pure (owner.setIfInBounds j (some k),k+1)) acc) (k+hs.length)
 | [],k,acc,_,_,L=>L
 | h::hs,k,acc,hl,he,⟨owner,ea,h1,h2,h3⟩=>by
  subst ea
  obtain⟨j,ej,L⟩:=zJa hm (by simp at hl;lia) h1 h2 h3 (by have:=he 0;simpa using this.symm)
  have:=zFk hm hs0 hs (k+1) _ (by simp at hl;lia) (fun i=>by have:=he (i+1);rw[show k+1+i=k+(i+1) by nofun];simpa using this) L
  rw[uR]
  have e2:(do
   let (owner,k) <- some (owner,k)
   let j <- SetTable.layClean.free t.mask owner (SetTable.turns t.mask) (SetTable.bits h % (t.mask+1)) (SetTable.bits h)
   pure (owner.setIfInBounds j (some k),k+1))=some (owner.setIfInBounds j (some k),k+1):=by
   show(SetTable.layClean.free t.mask owner (SetTable.turns t.mask) (SetTable.bits h % (t.mask+1)) (SetTable.bits h) >>= fun j=>pure (owner.setIfInBounds j (some k),k+1))=_
   rw[ej];rfl
  rw[e2,xA,show k+(hs.length+1)=k+1+hs.length by nofun]
  exact this
theorem zP3 {m:Nat}(hm:Msk m) {hs:Array Int}(hl:hs.size<=m) (hr:hs.size*5<m*3) (fing moves:Nat) (led:Bool):∃t order,SetTable.laid m fing moves led true hs=some (t,order)/\Tab t hs.size led/\order.toList.Perm (List.range hs.size)/\Chs t (order.toList.map fun k=>hs.toList.getD k 0):=by
 let t0:SetTable:={ mask:=m,place:=#[],dummies:=#[],finger:=fing,led:=led,moves:=moves,plain:=true }
 obtain⟨owner,e,h1,h2,h3⟩:=zFk (t:=t0) hm hs.toList hs.toList 0 (some (Array.replicate (m+1) none,0)) (by show 0+hs.toList.length<=m+1;simp;lia) (fun i=>by rw[Nat.zero_add]) ⟨_,rfl,by show _=m+1;simp,by show((Array.replicate (m+1) (none:Option Nat)).toList.filterMap id).Perm (List.range 0);simp,fun j v hv=>by rw[Array.getElem?_replicate]at hv;split at hv <;> cases hv⟩
 have h1:=h1
 have ec:SetTable.layClean m hs=some owner:=by
  unfold SetTable.layClean
  rw[<- Array.foldl_toList]
  have e':(hs.toList.foldl (fun acc h=>do
   let (owner,k) <- acc
   let j <- SetTable.layClean.free m owner (SetTable.turns m) (SetTable.bits h % (m+1)) (SetTable.bits h)
   pure (owner.setIfInBounds j (some k),k+1)) (some (Array.replicate (m+1) none,0)))=some (owner,0+hs.toList.length):=e
  rw[e']
  rfl
 obtain⟨t,order,a,T,p⟩:=zTl hm hl hr fing moves led
 refine⟨t,order,a,T,p,?_⟩
 unfold SetTable.laid at a
 rw[ec]at a
 have a':=xD a
 obtain⟨e1,e2⟩:=Prod.mk.inj a'
 have mem:∀j,j<=m->owner.getD j (some 0)≠none->j∈t.place.toList:=fun j hj hn=>by
  rw[<- e1]
  show j∈(List.map (fun r:Nat × Nat=>r.1) _).toArray.toList
  have hz:j<owner.size:=by nofun
  have hg:=x3 hz
  rw[vx,hg]at hn
  cases hv:owner[j]with
  | none=>rw[hv]at hn;exact absurd rfl hn
  | some v=>exact xB.mpr ⟨(j,v),uv.mpr ⟨j,vy.mpr (by nofun),by rw[vx,hg,hv];rfl⟩,rfl⟩
 have tm:t.mask=t0.mask:=by rw[<- e1]
 intro q hq
 have zq:∃r∈((List.range (m+1)).filterMap fun j=>(owner.getD j none).map (j,·)),q=(r.1,hs.toList.getD r.2 0):=by
  rw[<- e1,<- e2]at hq
  simp only[vd]at hq
  generalize ((List.range (m+1)).filterMap fun j=>(owner.getD j none).map (j,·))=live at hq
  clear a a' e1 e2 T p mem
  induction live with
  | nil=>simp at hq
  | cons r live ih=>
   simp only[xx,vZ]at hq
   rcases xk.mp hq with rfl|hq
   ·exact⟨r,.head _,rfl⟩
   ·obtain⟨r',hr',e'⟩:=ih hq
    exact⟨r',.tail _ hr',e'⟩
 obtain⟨⟨j,v⟩,hr,rfl⟩:=zq
 obtain⟨j',hj',ej⟩:=uv.mp hr
 have hov:owner[j']?=some (some v)/\j'=j:=by
  rw[vx]at ej
  cases ho:owner[j']? with
  | none=>rw[ho]at ej;cases ej
  | some w=>
   rw[ho]at ej
   cases w with
   | none=>cases ej
   | some u=>cases ej;exact⟨rfl,rfl⟩
 obtain⟨hov,rfl⟩:=hov
 obtain⟨mm,em,al⟩:=h3 j' v hov
 refine⟨mm,by rw[zBn tm,zC9 tm];exact em,fun m' hm'=>?_⟩
 rw[zBn tm,zC9 tm]
 exact mem _ (zNm t0 _ m') (al m' hm')
end TB
namespace TB
open PySem
theorem zDo {t:SetTable}{hashAt:Nat->Int}{h:Int}(hd:t.dummies=#[]):∀(f m:Nat) (p:SetTable.Probe),m<f->Far t p m->
  (∃d,d<=m/\SetTable.probe.go t hashAt h f p=some (.empty (adv t d p).j none)/\t.slot (adv t d p).j=.empty/\∀d',d'<d->∃i,t.slot (adv t d' p).j=.live i/\(hashAt i == h)=false) \/
  (∃d i,d<m/\SetTable.probe.go t hashAt h f p=some (.candidate (adv t d p).j i (adv t (d+1) p))/\t.slot (adv t d p).j=.live i/\(∀d',d'<d->∃i,t.slot (adv t d' p).j=.live i/\(hashAt i == h)=false)/\Far t (adv t (d+1) p) (m-(d+1)))
 | 0,m,p,hf,_=>by nofun
 | f+1,m,p,hf,⟨hm,hp⟩=>by
  unfold SetTable.probe.go
  have nd:=zBg hd p.j
  cases hs:t.slot p.j with
  | empty=>exact .inl ⟨0,x8 _,by rw[hp];rfl,hs,fun d' h=>by nofun⟩
  | dummy=>rw[hs]at nd;split at nd <;> cases nd
  | live i=>
   obtain⟨m',rfl⟩:∃m',m=m'+1:=by
    cases m with
    | zero=>
     have:t.slot p.j=.empty:=hm
     rw[hs]at this;cases this
    | succ k=>exact⟨k,rfl⟩
   have fr:Far t (t.advance p) m':=⟨hm,(zGa t 1 p).trans hp⟩
   dsimp only
   by_cases c:(hashAt i == h)=true
   ·rw[xc c]
    exact .inr ⟨0,i,by nofun,rfl,hs,fun d' h=>by nofun,by rw[show m'+1-(0+1)=m' by nofun];exact fr⟩
   ·rw[xf c]
    have c':(hashAt i == h)=false:=by simpa using c
    rcases zDo hd f m' _ (by nofun) fr with⟨d,h1,h2,h3,h4⟩|⟨d,i',h1,h2,h3,h4,h5⟩
    ·refine .inl ⟨d+1,by nofun,h2,h3,fun d' hd'=>?_⟩
     cases d' with
     | zero=>exact⟨i,hs,c'⟩
     | succ d'=>exact h4 d' (by nofun)
    ·refine .inr ⟨d+1,i',by nofun,h2,h3,fun d' hd'=>?_,by rw[show m'+1-(d+1+1)=m' - (d+1) by nofun];exact h5⟩
     cases d' with
     | zero=>exact⟨i,hs,c'⟩
     | succ d'=>exact h4 d' (by nofun)
theorem zGp {t:SetTable}{n j i:Nat}{b:Bool}(T:Tab t n b) (h:t.slot j=.live i):t.place[i]?=some j:=by
 rw[zBg T.nod]at h
 split at h
 ·rename_i c
  cases h
  exact eq_of_beq c
 ·cases h
theorem zTj {t:SetTable}{n j i:Nat}{b:Bool}(T:Tab t n b) (h:t.slot j=.live i):j∈t.place.toList:=by
 obtain⟨z,e⟩:=x4.mp (zGp T h)
 rw[<- e];simp
theorem zVg {l:List Nat}(u:Up l) {i j:Nat}(hi:i<l.length) (hj:j<l.length) (e:l[i]=l[j]):i=j:=by
 rcases Nat.lt_trichotomy i j with z|z|z
 ·have:=zDk u z hj;lia
 ·exact z
 ·have:=zDk u z hi;lia
theorem zKn {t:SetTable}{n:Nat}{b:Bool}(T:TabP t n b) (hf:t.tooFull=true) (hn:n<=1200) (hs:Array Int) (hz:hs.size=n):
  (decide (SetTable.sizeAbove (SetTable.grown n) > sizeLine)=false)/\∃t' order,t.relaid hs (SetTable.grown n)=some (t',order)/\Tab t' n b/\order.toList.Perm (List.range n)/\Chs t' (order.toList.map fun k=>hs.toList.getD k 0):=by
 have h1:=T.most
 unfold SetTable.tooFull at hf
 rw[T.fill]at hf
 have hf:t.mask*3<=n*5:=by simpa using hf
 have c:∃M,Msk M/\SetTable.sizeAbove (SetTable.grown n)=M+1/\n<=M/\n*5<M*3/\decide (SetTable.sizeAbove (SetTable.grown n) > sizeLine)=false:=by
  have c:n∈[5,9,19,38,77,153,307,614]:=by
   simp only[xk,vI,or_false]
   have:=T.hm
   simp only[Msk,xk,vI,or_false]at this
   rcases this with e|e|e|e|e|e|e|e|e|e <;> rw[e]at h1 hf <;> lia
  exact(by decide +kernel:∀n∈[5,9,19,38,77,153,307,614],∃M∈[7,15,31,63,127,255,511,1023,2047,4095],SetTable.sizeAbove (SetTable.grown n)=M+1/\n<=M/\n*5<M*3/\decide (SetTable.sizeAbove (SetTable.grown n) > sizeLine)=false) n c
 have key:∀M,Msk M->SetTable.sizeAbove (SetTable.grown n)=M+1->n<=M->n*5<M*3->∃t' order,t.relaid hs (SetTable.grown n)=some (t',order)/\Tab t' n b/\order.toList.Perm (List.range n)/\Chs t' (order.toList.map fun k=>hs.toList.getD k 0):=fun M hM e1 e2 e3=>by
  obtain⟨t',order,a,T',p,C⟩:=zP3 hM (hs:=hs) (by nofun) (by nofun) t.finger (t.movedTo M) b
  rw[hz]at T' p
  refine⟨t',order,?_,T',p,C⟩
  unfold SetTable.relaid
  rw[e1,T.plain,T.led]
  exact a
 obtain⟨M,a1,a2,a3,a4,a5⟩:=c
 exact⟨a5,key M a1 a2 a3 a4⟩
end TB
namespace TS
open PySem TB
noncomputable abbrev sObj (es:Array (Int × Value)) (ep:Nat) (t:SetTable):Obj:={ cls:=.type "set",dict:=none,data:=.set es ep t,slots:=#[] }
theorem Tab.ft {t:SetTable}{n:Nat}{b:Bool}(T:Tab t n b):t.fits n=true:=by
 have:=T.fits
 unfold SetTable.fits
 simp at this ⊢
 exact⟨this.1,this.2⟩
theorem TabP.ft {t:SetTable}{n:Nat}{b:Bool}(T:TabP t n b):t.fits n=true:=by
 have:=T.fits
 unfold SetTable.fits
 simp at this ⊢
 exact⟨this.1,this.2⟩
section
variable {prog:Program}{w:World}{A:Around}{E:Value->Shared->Prop}{s:Shared}
theorem gate {M:Model}{α:Type}{c:Prop}[Decidable c] {m:Sem Bool}{U R:Sem α}{Q:α->Shared->Prop}(hm:∀Q':Bool->Shared->Prop,Q' false s->wpAny M A m Q' E s) (hR:wpAny M A R Q E s):
  wpAny M A (if c then m >>= fun b=>if b=true then U else R else R) Q E s:=by
 by_cases h:c
 ·rw[xc h]
  exact xa (hm _ (by rw[xf (by decide)];exact hR))
 ·rw[xf h];exact hR
noncomputable def adr:Value->Addr
 | .ref a=>a
 | _=>0
end
end TS
namespace TS
open PySem TB
noncomputable abbrev zDf (w:World):Bool:=!(w.params.followText "set-order")
section
variable {prog:Program}{w:World}{A:Around}{E:Value->Shared->Prop}{s:Shared}
noncomputable abbrev nObj (w:World):Obj:=sObj #[] 0 (.fresh 0 0 (zDf w))
theorem zHo (a:Value) {Q₁:Value->Shared->Prop}(h:Q₁ (.ref s.heap.objs.size) { s with heap:=s.heap.push (nObj w) }):
  codeAny (model prog w) A (.call (.builtin "set.__new__") ⟨[.type "set",a],[]⟩) (wants Q₁ E) s:=by
 refine codeAny_of_tree (?_)
 refine xa (wpAny_of_eq (F.newCall_set_1 a) (xg ⟨plainId_quiet F.plain_set_new _,codeAny_builtin F.entry_set_new ?_⟩));rw[Around.under_plainId F.plain_set_new _]
 unfold Builtin.«set.__new__» Builtin.Frozenset.newClass;have hsub:=sub_set_self;obtain⟨hp,g,d,tk,os⟩:=s;dsimp only;wp_walk
 refine uS (xg ?_);dsimp only;simp only[newObj]
 exact xa (wpAny_alloc (xg (xg h)))
end
end TS
namespace TS
open PySem TB
theorem si_next:Slot "set_iterator" "__next__" "set_iterator.__next__":=
 .of (owner:="set_iterator") (n:="__next__") (by rw[typeLookup_type,u0];kernel_rfl) (by decide +kernel) (by decide +kernel) (by decide +kernel) (by first|exact .inl (by decide +kernel)|exact .inr (by decide +kernel)) (by rw[isSubtype_type];kernel_rfl)
theorem zHn:entryFor table "set_iterator.__next__"=some Builtin.«set_iterator.__next__»:=entryFor_of_tree (by kernel_rfl)
theorem zKe (a:Value):argsOk "set_iterator.__next__" ⟨[a],[]⟩:=by unfold argsOk;kernel_rfl
theorem zKc:Slot "set_iterator" "__iter__" "set_iterator.__iter__":=
 .of (owner:="set_iterator") (n:="__iter__") (by rw[typeLookup_type,u0];kernel_rfl) (by decide +kernel) (by decide +kernel) (by decide +kernel) (by first|exact .inl (by decide +kernel)|exact .inr (by decide +kernel)) (by rw[isSubtype_type];kernel_rfl)
theorem zKd:entryFor table "set_iterator.__iter__"=some Builtin.«dict_keyiterator.__iter__»:=entryFor_alias (id':="dict_keyiterator.__iter__") (by kernel_rfl) rfl (by decide +kernel) (by kernel_rfl)
theorem zNs (a:Value):argsOk "set_iterator.__iter__" ⟨[a],[]⟩:=by unfold argsOk;kernel_rfl
theorem zZu:entryFor table "set.__iter__"=some Builtin.«frozenset.__iter__»:=entryFor_alias (id':="frozenset.__iter__") (by kernel_rfl) rfl (by decide +kernel) (by kernel_rfl)
theorem zDv {α:Type}:∀(l:List α) (i:Nat) (h:i<l.length),(l[i]::l.eraseIdx i).Perm l
 | [],i,h=>by simp at h
 | x::l,0,h=>by simp
 | x::l,i+1,h=>by
  simp only[List.getElem_cons_succ,List.eraseIdx_cons_succ]
  exact(List.Perm.swap _ _ _).trans (List.Perm.cons x (zDv l i (by simpa using h)))
theorem zKx {α:Type}(next:Nat->Nat):∀(f k:Nat) (left:List α) (out:Array α),left.length=f->∃l,(pickOrder.go next f k left out).toList=out.toList++l/\l.Perm left
 | 0,k,left,out,h=>⟨[],by simp[pickOrder.go],by rw[List.length_eq_zero_iff.mp h]⟩
 | f+1,k,left,out,h=>by
  have hl:next k % left.length<left.length:=vD _ (by nofun)
  unfold pickOrder.go
  rw[xC hl]
  dsimp only
  obtain⟨l,e,p⟩:=zKx next f (k+1) (left.eraseIdx (next k % left.length)) (out.push left[next k % left.length]) (by rw[List.length_eraseIdx];simp[hl];lia)
  refine⟨left[next k % left.length]::l,by rw[e];simp,(List.Perm.cons _ p).trans ?_⟩
  exact zDv left _ hl
theorem zKw {α:Type}(next:Nat->Nat) (xs:Array α):(pickOrder next xs).toList.Perm xs.toList:=by
 obtain⟨l,e,p⟩:=zKx next xs.size 0 xs.toList #[] (by simp)
 unfold pickOrder
 rw[e]
 simpa using p
noncomputable def ordW (w:World) (S:Addr) (ep:Nat) (es:Array (Int × Value)):Array (Int × Value):=if w.params.followText "set-order"=true then pickOrder (w.params.setOrder S ep) es else es
theorem zC3 (w:World) (S:Addr) (ep:Nat) (es:Array (Int × Value)):(ordW w S ep es).toList.Perm es.toList:=by
 unfold ordW
 split
 ·exact zKw _ _
 ·exact .refl _
theorem zB9 (w:World) (S:Addr) (ep:Nat) (es:Array (Int × Value)):(ordW w S ep es).size=es.size:=by simpa using(zC3 w S ep es).length_eq
noncomputable def zCy (w:World) (t:SetTable) (i:Nat):Nat:=if w.params.followText "set-order"=true then 0 else TB.slotAt t.place i
section
variable {prog:Program}{w:World}{A:Around}{E:Value->Shared->Prop}{s:Shared}
noncomputable def IsSI (w:World) (h:Heap) (I S:Addr) (i n ep:Nat) (t:SetTable):Prop:=∃o,h.get? I=some o/\o.cls=.type "set_iterator"/\o.data=.fields #[.int (zCy w t i) 0,.int i 0,.ref S,.int n 0,.int ep 0]
theorem IsSI.typeIs {I S:Addr}{i n ep:Nat}{t:SetTable}(x:IsSI w s.heap I S i n ep t):s.TypeIs (.ref I) "set_iterator":=let ⟨o,ho,hc,_⟩:=x;⟨o,ho,hc⟩
theorem walk_of {S:Addr}{es:Array (Int × Value)}{ep:Nat}{t:SetTable}(ho:s.heap.get? S=some (sObj es ep t)) (T:TabW t es.size (!(w.params.followText "set-order"))) (i:Nat) (hi:i<=es.size) {Q:Option (Value × Nat)->Shared->Prop}
  (h:Q (((ordW w S ep es)[i]?).map fun e=>(e.2,zCy w t (i+1))) s):wpAny (model prog w) A (setNext S (zCy w t i) i ep) Q E s:=by
 unfold setNext
 refine xa (v5 ho rfl T.ft ?_)
 dsimp only
 unfold setsByText
 refine xa (xa (uS (xg ?_)))
 show wpAny _ _ (if(w.params.followText "set-order")=true then _ else _) _ _ _
 by_cases c:w.params.followText "set-order"=true
 ·rw[xc c]
  rw[xf (by simp)]
  refine xa ?_
  unfold setWalk
  refine xa (v5 ho rfl T.ft ?_)
  dsimp only
  unfold setsByText
  refine xa (xa (uS (xg ?_)))
  show wpAny _ _ (if(w.params.followText "set-order")=true then _ else _) _ _ _
  rw[xc c]
  refine xa (uS (xg (xg ?_)))
  unfold ordW zCy at h
  rw[xc c,xc c]at h
  unfold zCy
  rw[xc c]
  exact h
 ·rw[xf c]
  have hl:t.led=true:=by rw[T.led];simpa using c
  have e1:(!t.plain && decide (es.size > 1))=false:=by rw[T.plain];rfl
  show wpAny _ _ (if(!t.plain && decide (es.size > 1))=true then _ else _) _ _ _
  rw[e1]
  rw[xf (by decide)]
  show wpAny _ _ ((if(!t.led && !es.isEmpty)=true then _ else pure ()) >>= _) _ _ _
  rw[hl]
  rw[xf (by simp)]
  refine xa (xg ?_)
  unfold ordW zCy at h
  rw[xf c,xf c]at h
  unfold zCy
  rw[xf c,zG8 T.up (by rw[T.size];exact hi)]
  refine xg ?_
  rcases vc i es.size with z|z
  ·have z2:i<t.place.size:=by rw[T.size];exact z
   rw[x3 z,x3 z2]
   rw[x3 z]at h
   have:TB.slotAt t.place (i+1)=t.place[i]+1:=by unfold TB.slotAt;simp[Array.getD,z2]
   rw[this]at h
   exact h
  ·rw[Array.getElem?_eq_none z]
   rw[Array.getElem?_eq_none z]at h
   exact h
theorem zRt {I S:Addr}{i ep:Nat}{es:Array (Int × Value)}{t:SetTable}{e:Int × Value}{Q:Option Value->Shared->Prop}(hit:IsSI w s.heap I S i es.size ep t) (ho:s.heap.get? S=some (sObj es ep t)) (T:TabW t es.size (!(w.params.followText "set-order"))) (hne:S≠I)
  (hx:(ordW w S ep es)[i]?=some e) (hQ:∀h',IsSI w h' I S (i+1) es.size ep t->Heap.SameBut I s.heap h'->Q (some e.2) { s with heap:=h' }):wpAny (model prog w) A (pyNext (.ref I)) Q E s:=by
 have hlt:i<es.size:=by rw[<- zB9 w S ep es];exact(x4.mp hx).1
 obtain⟨o,hi,hc,hd⟩:=id hit
 unfold pyNext
 refine xa (ui (vG hit.typeIs si_next (xW si_next hit.typeIs zHn ?_ (zKe _))))
 unfold Builtin.«set_iterator.__next__»
 refine xa (xg ?_)
 refine xa (wpAny_fieldsOf hi hd ?_)
 dsimp only
 refine xa (wpAny_setEntries_of ho rfl T.ft ?_)
 rw[xf (by simp)]
 simp only[Int.toNat_natCast]
 refine xa (walk_of ho T i (vm hlt) ?_)
 rw[hx]
 simp only[vX]
 refine xa (vK hi hd (by simp) ?_)
 have g1:=vH (Obj.mapFields fun x=>x.setIfInBounds 0 (rawInt ↑(zCy w t (i+1)))) hi (uT (vL hd _))
 have d1:=vL hd fun x=>x.setIfInBounds 0 (rawInt ↑(zCy w t (i+1)))
 refine xa (vK g1 d1 (by simp) (xg ⟨e.2,rfl,xg (hQ _ ⟨_,vH _ g1 (uT (vL d1 _)),(Obj.cls_mapFields ..).trans ((Obj.cls_mapFields ..).trans hc),?_⟩ ((uj ..).trans (uj ..)))⟩))
 rw[vL d1]
 simp[rawInt]
theorem zRu {I S:Addr}{ep:Nat}{es:Array (Int × Value)}{t:SetTable}{Q:Option Value->Shared->Prop}(hh:A.handled=none) (hit:IsSI w s.heap I S es.size es.size ep t) (ho:s.heap.get? S=some (sObj es ep t)) (T:TabW t es.size (!(w.params.followText "set-order"))) (hne:S≠I)
  (hQ:∀h',Heap.ExtBut I s.heap h'->Q none { s with heap:=h' }):wpAny (model prog w) A (pyNext (.ref I)) Q E s:=by
 obtain⟨o,hi,hc,hd⟩:=id hit
 unfold pyNext
 refine xa (ui (vG hit.typeIs si_next (xW si_next hit.typeIs zHn ?_ (zKe _))))
 unfold Builtin.«set_iterator.__next__»
 refine xa (xg ?_)
 refine xa (wpAny_fieldsOf hi hd ?_)
 dsimp only
 refine xa (wpAny_setEntries_of ho rfl T.ft ?_)
 rw[xf (by simp)]
 simp only[Int.toNat_natCast]
 refine xa (walk_of ho T es.size (xh _) ?_)
 rw[Array.getElem?_eq_none (by rw[zB9];exact xh _)]
 simp only[Option.map_none]
 refine xa (vK hi hd (by simp) ?_)
 refine xa ?_
 simp only[newExc,newTuple]
 refine xa (vf (xa (wpAny_of_eq (by first|rfl|(simp only[firstArgMember];rfl)) (vf ?_ (by size_fits)))) (by size_fits))
 simp only[raiseNew]
 refine xa (wpAny_handled ?_);rw[show A.in1.handled=none from hh]
 refine xa (xg (wpAny_throw ?_))
 refine xa (vU ⟨_,xw _ rfl,rfl⟩ isSubtype_stop (xg (hQ _ (((uj ..).extBut.push _).push _))))
theorem zJw (hh:A.handled=none) (I S:Addr) (hne:S≠I) (es:Array (Int × Value)) (ep:Nat) (t:SetTable) (T:TabW t es.size (!(w.params.followText "set-order"))):
  Walks prog w A I [I,S] [I] es.size (fun i v=>((ordW w S ep es).map (·.2))[i]?=some v) (fun i h=>IsSI w h I S i es.size ep t/\h.get? S=some (sObj es ep t)) where
 sub:=fun b hb=>by simp at hb;simp[hb]
 frame:=fun _ _ _ st hk=>⟨let ⟨o,ho,r⟩:=st.1;⟨o,hk I (by simp) o ho,r⟩,hk S (by simp) _ st.2⟩
 item:=fun i s Q E hi st hQ=>by
  have hz:i<(ordW w S ep es).size:=by rw[zB9];exact hi
  refine zRt st.1 st.2 T hne (x3 hz) fun h' it' sb=>?_
  exact hQ _ h' s.toks (by rw[Array.getElem?_map,x3 hz];rfl) ⟨it',(sb.2 S hne).trans st.2⟩ fun b o hb e=>(sb.2 b fun z=>hb (by simp[z])).trans e
 done:=fun s Q E st hQ=>zRu hh st.1 st.2 T hne fun h' he'=>hQ h' s.toks fun b o hb e=>he' b o (fun h=>hb (by simp[h])) e
 self:=fun i s Q E st hQ=>wpAny_pyIter_slot st.1.typeIs zKc (xW zKc st.1.typeIs zKd (xg ⟨_,rfl,"set_iterator",_,st.1.typeIs,si_next.lookup,hQ⟩) (zNs _))
theorem zP8 {S:Addr}{es:Array (Int × Value)}{ep:Nat}{t:SetTable}{Q:Value->Shared->Prop}(ho:s.heap.get? S=some (sObj es ep t)) (T:TabW t es.size (!(w.params.followText "set-order")))
  (h:Q (.ref s.heap.objs.size) { s with heap:=s.heap.push { cls:=.type "set_iterator",data:=.fields #[.int 0 0,.int 0 0,.ref S,.int es.size 0,.int ep 0] } }):wpAny (model prog w) A (pyIter (.ref S)) Q E s:=by
 have hT:s.TypeIs (.ref S) "set":=⟨_,ho,rfl⟩
 refine wpAny_pyIter_slot hT F.slot_set_iter (xW F.slot_set_iter hT zZu ?_ (F.args_set_iter_1 _))
 unfold Builtin.«frozenset.__iter__»
 refine xa (xg ?_)
 unfold Builtin.Frozenset.sizeOf
 refine xa (xa (wpAny_setEntries_of ho rfl T.ft (xg ?_)))
 unfold setDrawn
 refine xa (xa (v5 ho rfl T.ft ?_))
 dsimp only
 unfold setsByText
 refine xa (xa (uS (xg (xg ?_))))
 show wpAny _ _ (if(!(w.params.followText "set-order") && (!t.plain && decide (es.size > 1)))=true then _ else _) _ _ _
 rw[xf (by rw[T.plain];simp)]
 refine xa (xg ?_)
 refine xa (wpAny_setEpoch_of ho rfl T.ft ?_)
 unfold newFields
 refine xa (vf (xg ⟨_,rfl,"set_iterator",_,⟨_,xw _ rfl,rfl⟩,si_next.lookup,?_⟩))
 simpa[rawInt]using h
theorem zPc {S:Addr}{Q:Bool->Shared->Prop}(hT:s.TypeIs (.ref S) "set") (h:Q false s):wpAny (model prog w) A (Builtin.List.listLengthHint (.ref S)) Q E s:=by
 unfold Builtin.List.listLengthHint
 refine xa (vT hT F.slot_set_len.lookup ?_)
 generalize hid:("set.__len__":String)=id0;wp_delta;rw[show splitId id0=some ("set","__len__")from by subst hid;decide +kernel];subst hid
 refine xa (vU hT sub_set_self (wpAny_ite_split (fun hab=>absurd hab (by decide)) fun _=>wpAny_ite_split (fun _=>xa (ue hT (xg h))) fun hab=>absurd (by decide +kernel) hab))
open PySem.W in
theorem zGf {S:Addr}{es:Array (Int × Value)}{ep:Nat}{t:SetTable}(T:TabW t es.size (!(w.params.followText "set-order"))):
  KdlSrc prog w "set" S S es.size (fun i v=>((ordW w S ep es).map (·.2))[i]?=some v) (fun h=>h.get? S=some (sObj es ep t)) where
 type:=fun s ok=>⟨_,ok,rfl⟩
 there:=fun h ok=>⟨xj ok,xj ok⟩
 keep:=fun h h' ok k=>k S (.inl rfl) _ ok
 notList:=by decide
 notTuple:=by decide
 hint:=fun A E s Q ok h=>zPc ⟨_,ok,rfl⟩ h
 iter:=fun A s hh ok=>⟨{ cls:=.type "set_iterator",data:=.fields #[.int 0 0,.int 0 0,.ref S,.int es.size 0,.int ep 0] },_,fun E Q h=>zP8 ok T h,
  zJw hh _ S (xt (xj ok)) es ep t T,⟨_,xw _ rfl,rfl,by
   have:zCy w t 0=0:=by unfold zCy;split <;> rfl
   rw[this];rfl⟩,xi _ ok⟩
end
end TS
namespace TS
open PySem
noncomputable def KIt (b:Bool) (h:Heap) (i a:Addr) (k:Nat):Prop:=∃o,h.get? i=some o/\o.cls=.type (if b then "tuple_iterator" else "list_iterator")/\o.data=.fields #[.ref a,.int k 0]
noncomputable def KSq (b:Bool) (h:Heap) (a:Addr) (xs:Array Value):Prop:=∃o,h.get? a=some o/\o.cls=.type (if b then "tuple" else "list")/\∃n,o.data=.seq xs n
theorem KIt.at {b:Bool}{h h':Heap}{i a:Addr}{k:Nat}(x:KIt b h i a k) (e:∀o,h.get? i=some o->h'.get? i=some o):KIt b h' i a k:=let ⟨o,ho,r⟩:=x;⟨o,e _ ho,r⟩
theorem KSq.at {b:Bool}{h h':Heap}{a:Addr}{xs:Array Value}(x:KSq b h a xs) (e:∀o,h.get? a=some o->h'.get? a=some o):KSq b h' a xs:=let ⟨o,ho,r⟩:=x;⟨o,e _ ho,r⟩
theorem KIt.xb {b:Bool}{h h':Heap}{i a c:Addr}{k:Nat}(x:KIt b h i a k) (e:Heap.ExtBut c h h') (n:i≠c):KIt b h' i a k:=x.at fun o q=>e _ _ n q
theorem KSq.xb {b:Bool}{h h':Heap}{a c:Addr}{xs:Array Value}(x:KSq b h a xs) (e:Heap.ExtBut c h h') (n:a≠c):KSq b h' a xs:=x.at fun o q=>e _ _ n q
section
variable {prog:Program}{w:World}{A:Around}{E:Value->Shared->Prop}{s:Shared}
theorem next_item {b:Bool}{it l:Addr}{i:Nat}{items:Array Value}{x:Value}{Q:Value->Shared->Prop}(hit:KIt b s.heap it l i) (hl:KSq b s.heap l items) (hx:items[i]?=some x)
  (hQ:∀h',KIt b h' it l (i+1)->Heap.SameBut it s.heap h'->Q x { s with heap:=h' }):wpAny (model prog w) A (Builtin.SmallTypes.nextOf (.ref it)) Q E s:=by
 cases b with
 | false=>exact wpAny_nextOf_list_item hit hl hx hQ
 | true=>
  obtain⟨o,ho,hc,hd⟩:=id hit
  obtain⟨ol,hol,_,nl,hdl⟩:=hl
  have hT:s.TypeIs (.ref it) "tuple_iterator":=⟨o,ho,hc⟩
  unfold Builtin.SmallTypes.nextOf
  refine xa (vG hT u7 (xW u7 hT F.entry_tuple_iterator_next ?_ (F.args_tuple_iterator_next_1 _)))
  refine(show wpAny _ _ (field (.ref it) 0 >>= _) _ _ s from xa (xM ho hd rfl (show wpAny _ _ (if(Value.ref l == Value.none)=true then _ else _) _ _ s from ?_)))
  rw[xf (show ¬ ((Value.ref l == Value.none)=true)from uF)]
  refine(xa (xM ho hd rfl (xa (vj hol hdl ?_))))
  simp only[Int.toNat_natCast,hx]
  refine xa (vK ho hd (by simp) (xg ⟨x,rfl,xg (hQ _ ⟨_,vH _ ho (uT (vL hd _)),(Obj.cls_mapFields ..).trans hc,?_⟩ (uj ..))⟩))
  rw[vL hd];simp[rawInt]
theorem next_end {b:Bool}{it l:Addr}{i:Nat}{items:Array Value}{Q:Value->Shared->Prop}(hh:A.handled=none) (hit:KIt b s.heap it l i) (hl:KSq b s.heap l items) (hx:items[i]?=none)
  (hE:∀h' e,Heap.ExtBut it s.heap h'->(∃o,h'.get? e=some o/\o.cls=.type "StopIteration")->E (.ref e) { s with heap:=h' }):wpAny (model prog w) A (Builtin.SmallTypes.nextOf (.ref it)) Q E s:=by
 cases b with
 | false=>exact wpAny_nextOf_list_end hh hit hl hx hE
 | true=>
  obtain⟨o,ho,hc,hd⟩:=id hit
  obtain⟨ol,hol,_,nl,hdl⟩:=hl
  have hT:s.TypeIs (.ref it) "tuple_iterator":=⟨o,ho,hc⟩
  unfold Builtin.SmallTypes.nextOf
  refine xa (vG hT u7 (xW u7 hT F.entry_tuple_iterator_next ?_ (F.args_tuple_iterator_next_1 _)))
  refine(show wpAny _ _ (field (.ref it) 0 >>= _) _ _ s from xa (xM ho hd rfl (show wpAny _ _ (if(Value.ref l == Value.none)=true then _ else _) _ _ s from ?_)))
  rw[xf (show ¬ ((Value.ref l == Value.none)=true)from uF)]
  refine(xa (xM ho hd rfl (xa (vj hol hdl ?_))))
  simp only[Int.toNat_natCast,hx]
  refine xa (vg (xa (vK ho hd (by simp) (xa ?_))))
  simp only[newExc,newTuple]
  refine xa (vf (xa (wpAny_of_eq (by first|rfl|(simp only[firstArgMember];rfl)) (vf ?_ (by size_fits)))) (by size_fits))
  simp only[raiseNew]
  refine xa (wpAny_handled ?_);rw[show A.in1.handled=none from hh]
  refine xa (xg (wpAny_throw ?_))
  exact hE _ _ (((uj ..).extBut.push _).push _) ⟨_,xw _ rfl,rfl⟩
theorem zRf {b1 b2:Bool}{z TI TO i1 i2 l1 l2:Addr}{k1 k2:Nat}{xs ys:Array Value}{x y a b:Value}{Q:Option Value->Shared->Prop}(D:ZipApart z TI TO i1 i2 l1 l2)
  (hz:IsZip s.heap z TI TO .none) (hTI:IsPair s.heap TI (.ref i1) (.ref i2)) (hTO:IsPair s.heap TO a b) (h1:KIt b1 s.heap i1 l1 k1) (h2:KIt b2 s.heap i2 l2 k2) (q1:KSq b1 s.heap l1 xs) (q2:KSq b2 s.heap l2 ys) (hx:xs[k1]?=some x) (hy:ys[k2]?=some y)
  (hQ:∀h',IsZip h' z TI TO (rawInt s.heap.objs.size)->IsPair h' TO x y->KIt b1 h' i1 l1 (k1+1)->KIt b2 h' i2 l2 (k2+1)->IsPair h' s.heap.objs.size x y->(∀c o,c≠z->c≠TO->c≠i1->c≠i2->s.heap.get? c=some o->h'.get? c=some o)->Q (some (.ref s.heap.objs.size)) { s with heap:=h' }):
  wpAny (model prog w) A (pyNext (.ref z)) Q E s:=by
 have hT:s.TypeIs (.ref z) "zip":=⟨_,hz,rfl⟩
 unfold pyNext
 refine xa (ui (vG hT F.slot_zip_next (xW F.slot_zip_next hT F.entry_zip_next ?_ (F.args_zip_next_1 _))))
 refine(show wpAny _ _ (field (.ref z) 2 >>= _) _ _ _ from xa (xM hz rfl rfl (xa (xM hz rfl rfl (xa (vj hTI rfl (xa ?_)))))))
 unfold Builtin.SmallTypes.ownedTupleIsFree;refine xa (xM hz rfl rfl (xg ?_));simp only[xn]
 refine xa (vg (xa (xM hz rfl rfl (xa (uC hz (by simp) fun g1 z1 s1=>xa ?_)))))
 replace z1:IsZip g1 z TI TO .ellipsis:=z1
 simp only[List.zipIdx_cons,List.zipIdx_nil,uJ,List.forIn_nil]
 refine xa (xa (wpAny_onRaise (xa (next_item (h1.xb s1.extBut D.i1z) (q1.xb s1.extBut D.l1z) hx fun g2 h12 s2=>xg ?_))))
 have T2:=s2.extBut _ _ D.TOi1 (s1.extBut _ _ D.TOz hTO)
 refine xa (vj T2 rfl (xa (wpAny_updateSeq_pair T2 fun g3 T3 s3=>xa (wpAny_letGo (xg ?_)))))
 replace T3:IsPair g3 TO x b:=T3
 refine xa (xa (wpAny_onRaise (xa (next_item (((h2.xb s1.extBut D.i2z).xb s2.extBut D.i12.symm).xb s3.extBut D.TOi2.symm) (((q2.xb s1.extBut D.l2z).xb s2.extBut D.l2i1).xb s3.extBut D.l2TO) hy fun g4 h24 s4=>xg ?_))))
 have T4:=s4.extBut _ _ D.TOi2 T3
 refine xa (vj T4 rfl (xa (wpAny_updateSeq_pair T4 fun g5 T5 s5=>xa (wpAny_letGo (xg (xg ?_))))))
 replace T5:IsPair g5 TO x y:=T5
 refine xa (vj T5 rfl (xa (wpAny_newTuple ?_)))
 have sz:g5.objs.size=s.heap.objs.size:=by rw[s5.1,s4.1,s3.1,s2.1,s1.1]
 have z5:=s5.extBut _ _ D.TOz.symm (s4.extBut _ _ D.i2z.symm (s3.extBut _ _ D.TOz.symm (s2.extBut _ _ D.i1z.symm z1)))
 have k5:∀c o,c≠z->c≠TO->c≠i1->c≠i2->s.heap.get? c=some o->g5.get? c=some o:=fun c o c1 c2 c3 c4 e=>s5.extBut _ _ c2 (s4.extBut _ _ c4 (s3.extBut _ _ c2 (s2.extBut _ _ c3 (s1.extBut _ _ c1 e))))
 have a5:=((h12.xb s3.extBut D.TOi1.symm).xb s4.extBut D.i12).xb s5.extBut D.TOi1.symm
 have b5:=h24.xb s5.extBut D.TOi2.symm
 have zlt:=xj z5
 refine(xa ?_)
 unfold Builtin.SmallTypes.ownedTupleHandOut
 have z6:IsZip (g5.push { cls:=.type "tuple",data:=.seq #[x,y] }) z TI TO .ellipsis:=xi _ z5
 refine xa (uC z6 (by simp) fun g7 z7 s7=>?_)
 replace z7:IsZip g7 z TI TO (rawInt g5.objs.size):=z7
 refine uC z7 (by simp) fun g8 z8 s8=>?_
 replace z8:IsZip g8 z TI TO (rawInt g5.objs.size):=z8
 have up:∀c o,c≠z->g5.get? c=some o->g8.get? c=some o:=fun c o c1 e=>s8.extBut _ _ c1 (s7.extBut _ _ c1 (xi _ e))
 have T8:=s8.extBut _ _ (vz zlt) (s7.extBut _ _ (vz zlt) (xw _ rfl))
 rw[sz]at z8 T8
 refine xg ⟨_,rfl,?_⟩
 show wpAny _ _ (pure (some (Value.ref g5.objs.size))) _ _ _
 rw[sz]
 exact xg (hQ g8 z8 (up _ _ D.TOz T5) (a5.at fun o e=>up _ o D.i1z e) (b5.at fun o e=>up _ o D.i2z e) T8 fun c o c1 c2 c3 c4 e=>up c o c1 (k5 c o c1 c2 c3 c4 e))
theorem zVb {b1 b2:Bool}{z TI TO i1 i2 l1 l2:Addr}{k1 k2:Nat}{xs ys:Array Value}{a b:Value}{Q:Option Value->Shared->Prop}(hh:A.handled=none) (D:ZipApart z TI TO i1 i2 l1 l2)
  (hz:IsZip s.heap z TI TO .none) (hTI:IsPair s.heap TI (.ref i1) (.ref i2)) (hTO:IsPair s.heap TO a b) (h1:KIt b1 s.heap i1 l1 k1) (h2:KIt b2 s.heap i2 l2 k2) (q1:KSq b1 s.heap l1 xs) (q2:KSq b2 s.heap l2 ys) (hend:xs[k1]?=none\/ys[k2]?=none)
  (hQ:∀h',(∀c o,c≠z->c≠TO->c≠i1->c≠i2->s.heap.get? c=some o->h'.get? c=some o)->Q none { s with heap:=h' }):wpAny (model prog w) A (pyNext (.ref z)) Q E s:=by
 have hT:s.TypeIs (.ref z) "zip":=⟨_,hz,rfl⟩
 unfold pyNext
 have stop:∀(g:Heap) (e:Addr),(∀c o,c≠z->c≠TO->c≠i1->c≠i2->s.heap.get? c=some o->g.get? c=some o)->(∃o,g.get? e=some o/\o.cls=.type "StopIteration")->wpAny (model prog w) A (do
   let b <- isInstance (.ref e) (.type "StopIteration")
   if b=true then pure none else throw (.ref e)) Q E { s with heap:=g }:=fun g e kp hz3=>by obtain⟨o,ho,hc⟩:=hz3;exact xa (vU ⟨o,ho,hc⟩ isSubtype_stop (xg (hQ _ kp)))
 refine xa (ui (vG hT F.slot_zip_next (xW F.slot_zip_next hT F.entry_zip_next ?_ (F.args_zip_next_1 _))))
 refine(show wpAny _ _ (field (.ref z) 2 >>= _) _ _ _ from xa (xM hz rfl rfl (xa (xM hz rfl rfl (xa (vj hTI rfl (xa ?_)))))))
 unfold Builtin.SmallTypes.ownedTupleIsFree;refine xa (xM hz rfl rfl (xg ?_));simp only[xn]
 refine xa (vg (xa (xM hz rfl rfl (xa (uC hz (by simp) fun g1 z1 s1=>xa ?_)))))
 replace z1:IsZip g1 z TI TO .ellipsis:=z1
 simp only[List.zipIdx_cons,List.zipIdx_nil,uJ,List.forIn_nil]
 have hhi:=hh
 refine xa (xa (wpAny_onRaise (xa ?_)))
 cases hx:xs[k1]? with
 | none=>
  refine next_end hhi (h1.xb s1.extBut D.i1z) (q1.xb s1.extBut D.l1z) hx fun g2 e s2 he=>?_
  obtain⟨oe,hoe,hce⟩:=he
  have z2:=s2 _ _ D.i1z.symm z1
  have ne:e≠z:=fun x=>by subst x;rw[z2]at hoe;cases hoe;simp at hce
  exact uC z2 (by simp) fun g3 _ s3=>stop g3 e (fun c o c1 _ c3 _ x=>s3.extBut _ _ c1 (s2 _ _ c3 (s1.extBut _ _ c1 x))) ⟨oe,s3.extBut _ _ ne hoe,hce⟩
 | some x=>
  have hy:ys[k2]?=none:=by rcases hend with h|h;rw[hx]at h;cases h;exact h
  refine next_item (h1.xb s1.extBut D.i1z) (q1.xb s1.extBut D.l1z) hx fun g2 h12 s2=>xg ?_
  have T2:=s2.extBut _ _ D.TOi1 (s1.extBut _ _ D.TOz hTO)
  refine xa (vj T2 rfl (xa (wpAny_updateSeq_pair T2 fun g3 T3 s3=>xa (wpAny_letGo (xg ?_)))))
  refine xa (xa (wpAny_onRaise (xa (next_end hhi (((h2.xb s1.extBut D.i2z).xb s2.extBut D.i12.symm).xb s3.extBut D.TOi2.symm) (((q2.xb s1.extBut D.l2z).xb s2.extBut D.l2i1).xb s3.extBut D.l2TO) hy fun g4 e s4 he=>?_))))
  obtain⟨oe,hoe,hce⟩:=he
  have z4:=s4 _ _ D.i2z.symm (s3.extBut _ _ D.TOz.symm (s2.extBut _ _ D.i1z.symm z1))
  have ne:e≠z:=fun x=>by subst x;rw[z4]at hoe;cases hoe;simp at hce
  exact uC z4 (by simp) fun g5 _ s5=>stop g5 e (fun c o c1 c2 c3 c4 x=>s5.extBut _ _ c1 (s4 _ _ c4 (s3.extBut _ _ c2 (s2.extBut _ _ c3 (s1.extBut _ _ c1 x))))) ⟨oe,s5.extBut _ _ ne hoe,hce⟩
end
end TS
namespace TS
open PySem
noncomputable abbrev itO (b:Bool) (l:Addr):Obj:={ cls:=.type (if b then "tuple_iterator" else "list_iterator"),data:=.fields #[.ref l,.int 0 0] }
section
variable {prog:Program}{w:World}{A:Around}{E:Value->Shared->Prop}{s:Shared}
theorem zQt {b:Bool}{l:Addr}{xs:Array Value}{Q:Value->Shared->Prop}(q:KSq b s.heap l xs) (h:Q (.ref s.heap.objs.size) { s with heap:=s.heap.push (itO b l) }):wpAny (model prog w) A (pyIter (.ref l)) Q E s:=by
 cases b with
 | false=>exact uO q h
 | true=>exact wpAny_pyIter_tuple q h
end
noncomputable abbrev kz1 (b1 b2:Bool) (h:Heap) (l1 l2:Addr):Heap:=(h.push (itO b1 l1)).push (itO b2 l2)
noncomputable abbrev kz2 (b1 b2:Bool) (h:Heap) (l1 l2:Addr):Heap:=(kz1 b1 b2 h l1 l2).push { cls:=.type "tuple",data:=.seq #[.ref h.objs.size,.ref (h.push (itO b1 l1)).objs.size] }
noncomputable abbrev kz3 (b1 b2:Bool) (h:Heap) (l1 l2:Addr):Heap:=(kz2 b1 b2 h l1 l2).push { cls:=.type "tuple",data:=.seq #[.none,.none] }
noncomputable abbrev kz4 (b1 b2:Bool) (h:Heap) (l1 l2:Addr):Heap:=(kz3 b1 b2 h l1 l2).push { cls:=.type "zip",data:=.fields #[.none,.bool false,.bool false,.ref (kz1 b1 b2 h l1 l2).objs.size,.ref (kz2 b1 b2 h l1 l2).objs.size] }
theorem zXo (b1 b2:Bool) (l1 l2:Addr) (xs ys:Array Value):Meets (Builtin.«zip.__new__» ⟨[.type "zip",.ref l1,.ref l2],[]⟩) (fun _ R s=>KSq b1 s.heap l1 xs/\KSq b2 s.heap l2 ys/\R (.ok (.ret (.ref (kz3 b1 b2 s.heap l1 l2).objs.size))) { s with heap:=kz4 b1 b2 s.heap l1 l2 }):=
 .of_wp fun prog w A R s h=>by
  obtain⟨hp,g,d,tk,os⟩:=s;obtain⟨q1,q2,h⟩:=h
  have hsub:=sub_zip
  have L1:=q1
  have L2:KSq b2 (Shared.heap ⟨hp.push (itO b1 l1),g,d,tk,os⟩) l2 ys:=q2.at fun o e=>xi _ e
  wp_walk using zQt L1,zQt L2
  exact⟨_,rfl,h⟩
section
variable {prog:Program}{w:World}{A:Around}{E:Value->Shared->Prop}{s:Shared}
theorem zTm {b1 b2:Bool}{l1 l2:Addr}{xs ys:Array Value}{Q:Value->Shared->Prop}(q1:KSq b1 s.heap l1 xs) (q2:KSq b2 s.heap l2 ys)
  (h:∀h',IsZip h' (s.heap.objs.size+4) (s.heap.objs.size+2) (s.heap.objs.size+3) .none->IsPair h' (s.heap.objs.size+2) (.ref s.heap.objs.size) (.ref (s.heap.objs.size+1))->
   IsPair h' (s.heap.objs.size+3) .none .none->KIt b1 h' s.heap.objs.size l1 0->KIt b2 h' (s.heap.objs.size+1) l2 0->(∀c o,s.heap.get? c=some o->h'.get? c=some o)->Q (.ref (s.heap.objs.size+4)) { s with heap:=h' }):
  wpAny (model prog w) A (call (.type "zip") [.ref l1,.ref l2]) Q E s:=by
 refine callType_new F.called_zip (by decide) (F.typeCall_zip_2 _ _) (F.newCall_zip_2 _ _) (fun obj=>F.args_object_init_3 obj _ _) F.entry_zip_new (zXo b1 b2 l1 l2 xs ys) ⟨q1,q2,?_⟩
 have z0:(s.heap.push (itO b1 l1)).objs.size=s.heap.objs.size+1:=vi ..
 have z1:(kz1 b1 b2 s.heap l1 l2).objs.size=s.heap.objs.size+2:=by rw[vi,z0]
 have z2:(kz2 b1 b2 s.heap l1 l2).objs.size=s.heap.objs.size+3:=by rw[vi,z1]
 have z3:(kz3 b1 b2 s.heap l1 l2).objs.size=s.heap.objs.size+4:=by rw[vi,z2]
 have g5:(kz4 b1 b2 s.heap l1 l2).get? (kz3 b1 b2 s.heap l1 l2).objs.size=some _:=xw _ rfl
 have g4:(kz4 b1 b2 s.heap l1 l2).get? (kz2 b1 b2 s.heap l1 l2).objs.size=some _:=xi _ (xw _ rfl)
 have g3:(kz4 b1 b2 s.heap l1 l2).get? (kz1 b1 b2 s.heap l1 l2).objs.size=some _:=xi _ (xi _ (xw _ rfl))
 have g2:(kz4 b1 b2 s.heap l1 l2).get? (s.heap.push (itO b1 l1)).objs.size=some (itO b2 l2):=xi _ (xi _ (xi _ (xw _ (by cases b2 <;> rfl))))
 have g1:(kz4 b1 b2 s.heap l1 l2).get? s.heap.objs.size=some (itO b1 l1):=xi _ (xi _ (xi _ (xi _ (xw _ (by cases b1 <;> rfl)))))
 have gk:∀c o,s.heap.get? c=some o->(kz4 b1 b2 s.heap l1 l2).get? c=some o:=fun c o x=>xi _ (xi _ (xi _ (xi _ (xi _ x))))
 show _/\_
 rw[z3]at g5 ⊢
 rw[z1,z2]at g5
 rw[z1,z0]at g3
 rw[z2]at g4
 rw[z0]at g2
 exact⟨⟨_,g5,rfl⟩,h _ g5 g3 g4 ⟨_,g1,rfl,rfl⟩ ⟨_,g2,rfl,rfl⟩ gk⟩
end
end TS
namespace L2
open PySem PySem.Spec PyProof.Rows TS
noncomputable def hoK (b:Bool) (xs:List V):HO:=if b then .tup xs else .lst xs
noncomputable def Itk (b1 b2:Bool) (a b:Addr):It:=
  ⟨fun i H=>∃xs ys x y,H a=some (hoK b1 xs)/\H b=some (hoK b2 ys)/\xs[i]?=some x/\ys[i]?=some y,
   fun i H v H'=>∃T xs ys x y,v=.ref T/\H T=none/\H a=some (hoK b1 xs)/\H b=some (hoK b2 ys)/\xs[i]?=some x/\ys[i]?=some y/\H'=upd H T (.tup [x,y]),
   fun i H=>∃xs ys,H a=some (hoK b1 xs)/\H b=some (hoK b2 ys)/\(xs.length<=i\/ys.length<=i)⟩
theorem Inv.kSq {X:Cx}{pins:List (Addr × Obj)}{σ:St}{H:Hp}{s:Shared}{b:Bool}{a:Addr}{xs:List V}(I:Inv X pins σ H s) (h:H a=some (hoK b xs)):∃its:List Value,Vals xs its/\KSq b s.heap a its.toArray/\xs.length<=sizeLine:=by
 cases b with
 | false=>obtain⟨its,r,p,z⟩:=I.list (SqL.of h);exact⟨its,r,p.isList,z⟩
 | true=>obtain⟨its,r,p,z⟩:=I.tuple (SqT.of h);exact⟨its,r,p,z⟩
theorem zVl {P:Program}{w:World}{K:PySem.W.Frag}{es:List Expr}{k:Nat}{pos:Pos}(b1 b2:Bool) (a b z TI TO i1 i2:Addr) (D:ZipOwn z TI TO i1 i2):
  Turn P w K (.Tuple es k pos) (Itk b1 b2 a b) [z,TI,TO,i1,i2] z (fun i h=>IsZip h z TI TO .none/\IsPair h TI (.ref i1) (.ref i2)/\(∃p q,IsPair h TO p q)/\KIt b1 h i1 a i/\KIt b2 h i2 b i) where
 mem:=by simp
 obj:=fun i h st c hc=>by
  obtain⟨hz,hTI,⟨p,q,hTO⟩,⟨o1,e1,c1,d1⟩,⟨o2,e2,c2,d2⟩⟩:=st
  simp only[xk,vI,or_false]at hc
  rcases hc with rfl|rfl|rfl|rfl|rfl
  ·exact⟨_,hz,fun v z=>by cases z⟩
  ·exact⟨_,hTI,fun v z=>by cases z⟩
  ·exact⟨_,hTO,fun v z=>by cases z⟩
  ·exact⟨_,e1,fun v z=>by rw[d1]at z;cases z⟩
  ·exact⟨_,e2,fun v z=>by rw[d2]at z;cases z⟩
 keep:=fun i h h' st kk=>by
  obtain⟨hz,hTI,⟨p,q,hTO⟩,h1,h2⟩:=st
  exact⟨kk z (by simp) _ hz,kk TI (by simp) _ hTI,⟨p,q,kk TO (by simp) _ hTO⟩,h1.at fun o e=>kk i1 (by simp) o e,h2.at fun o e=>kk i2 (by simp) o e⟩
 item:=by
  intro X hP hw hK hc i pins s σ H E I hf st hg
  subst hP hw hK
  obtain⟨xs,ys,x,y,ha,hb,hx,hy⟩:=hg
  obtain⟨hz,hTI,⟨p,q,hTO⟩,h1,h2⟩:=st
  obtain⟨its,rv,p1,z1⟩:=I.kSq ha
  obtain⟨jts,rw',p2,z2⟩:=I.kSq hb
  obtain⟨u,hu,ru⟩:=rv.get hx
  obtain⟨v,hv,rv'⟩:=rw'.get hy
  have na:a ∉ [z,TI,TO,i1,i2]:=fun m=>by rw[(hf a m).1]at ha;cases ha
  have nb:b ∉ [z,TI,TO,i1,i2]:=fun m=>by rw[(hf b m).1]at hb;cases hb
  have hfr:=I.hok.fresh (xh _)
  have zlt:=xj hz
  refine zRf (D.apart na nb) hz hTI hTO h1 h2 p1 p2 (by simpa using hu) (by simpa using hv) fun h' a1 a2 a3 a4 a5 hk=>?_
  refine⟨_,rfl,wpAny_letOwnedTupleGo_zip a1 fun h2' hz' hs'=>?_⟩
  have hT:=hs'.extBut _ _ (vz zlt) a5
  refine⟨.ref s.heap.objs.size,upd H s.heap.objs.size (.tup [x,y]),I.turnedT hf (fun c o hc e=>?_) (xh _) ⟨by show 2<=sizeLine;decide,[u,v],.cons ru (.cons rv' .nil),⟨_,hT,rfl,_,rfl⟩⟩,rfl,
   ⟨_,xs,ys,x,y,rfl,hfr,ha,hb,hx,hy,rfl⟩,⟨hz',hs'.extBut _ _ D.TIz (hk _ _ D.TIz D.TITO D.TIi1 D.TIi2 hTI),⟨_,_,hs'.extBut _ _ D.TOz a2⟩,a3.xb hs'.extBut D.i1z,a4.xb hs'.extBut D.i2z⟩,fun c hc=>?_⟩
  ·simp only[xk,vI,or_false,not_or]at hc
   exact hs'.extBut _ _ hc.1 (hk _ _ hc.1 hc.2.2.1 hc.2.2.2.1 hc.2.2.2.2 e)
  ·have hn:=(hf c hc).1
   have ne:c≠s.heap.objs.size:=by
    obtain⟨o1,e1,_⟩:=h1
    obtain⟨o2,e2,_⟩:=h2
    simp only[xk,vI,or_false]at hc
    rcases hc with rfl|rfl|rfl|rfl|rfl
    ·exact xt (xj hz)
    ·exact xt (xj hTI)
    ·exact xt (xj hTO)
    ·exact xt (xj e1)
    ·exact xt (xj e2)
   rw[zA2 ne];exact hn
 done:=by
  intro X hP hw hK hc i pins s σ H E I hf st hg
  subst hP hw hK
  obtain⟨xs,ys,ha,hb,hx⟩:=hg
  obtain⟨hz,hTI,⟨p,q,hTO⟩,h1,h2⟩:=st
  obtain⟨its,rv,p1,z1⟩:=I.kSq ha
  obtain⟨jts,rw',p2,z2⟩:=I.kSq hb
  have na:a ∉ [z,TI,TO,i1,i2]:=fun m=>by rw[(hf a m).1]at ha;cases ha
  have nb:b ∉ [z,TI,TO,i1,i2]:=fun m=>by rw[(hf b m).1]at hb;cases hb
  have l1:=rv.length
  have l2:=rw'.length
  refine zVb (I.ok.hd hc) (D.apart na nb) hz hTI hTO h1 h2 p1 p2 ?_ fun h' hk=>⟨rfl,I.turnedL hf fun c o hc e=>?_⟩
  ·rcases hx with hx|hx
   ·exact .inl (by simp;lia)
   ·exact .inr (by simp;lia)
  ·simp only[xk,vI,or_false,not_or]at hc
   exact hk _ _ hc.1 hc.2.2.1 hc.2.2.2.1 hc.2.2.2.2 e
 self:=fun _ _ _ _ _ st h=>wpAny_pyIter_zip st.1 h
section
variable {X:Cx}{tg:Expr}
noncomputable def iZk (b1 b2:Bool) (ta:TA):TI:=fun σ H R=>ta σ H fun vs H1=>∃a b,vs=[.ref a,.ref b]/\(∃xs,H1 a=some (hoK b1 xs))/\(∃ys,H1 b=some (hoK b2 ys))/\R (Itk b1 b2 a b) H1
theorem yA6 (b1 b2:Bool) {a b:Expr}{es:List Expr}{k:Nat}{tpos:Pos}{ta:TA}{p pos:Pos}(hg:Gl X "zip") (hm:X.mg "zip"=none) (ha:PA X [a,b] ta) (hs:starEach [a,b] X.env=[(false,eval a X.env),(false,eval b X.env)]:=by rfl) (hs2:starEach [b] X.env=[(false,eval b X.env)]:=by rfl):
  PI X (.Tuple es k tpos) (.Call (.Name "zip" p) [a,b] [] pos) (iZk b1 b2 ta):=by
 intro pins s σ H R I h
 refine Call_ (zC6 I hg hm PyProof.Rows.boot_zip (uu (thn (ha pos pins s σ H _ I h) fun us s1 ⟨vs,H1,I1,r1,q1⟩=>?_) (by rw[hs,hs2]) (by rw[hs2];rfl)))
 obtain⟨l1,l2,e,⟨xs,ha1⟩,⟨ys,hb1⟩,q⟩:=q1
 subst e
 obtain⟨u1,u2,rfl,rfl,rfl⟩:=vals2 r1
 obtain⟨its,rv,p1,z1⟩:=I1.kSq ha1
 obtain⟨jts,rw',p2,z2⟩:=I1.kSq hb1
 refine zTm p1 p2 fun h' c1 c2 c3 c4 c5 hk=>?_
 refine wpAny_pyIter_zip c1 ?_
 have DZ:∀n:Nat,ZipOwn (n+4) (n+2) (n+3) n (n+1):=fun n=>by constructor <;> exact fun e=>absurd (e) (by nofun)
 refine⟨_,[s1.heap.objs.size+4,s1.heap.objs.size+2,s1.heap.objs.size+3,s1.heap.objs.size,s1.heap.objs.size+1],_,_,H1,rfl,I1.kept hk,zVl b1 b2 l1 l2 _ _ _ _ _ (DZ _),⟨c1,c2,⟨_,_,c3⟩,c4,c5⟩,fun c hc=>?_,q⟩
 have hle:s1.heap.objs.size<=c:=by
  simp only[xk,vI,or_false]at hc
  rcases hc with rfl|rfl|rfl|rfl|rfl
  ·exact uU _ _
  ·exact uU _ _
  ·exact uU _ _
  ·exact xh _
  ·exact uU _ _
 exact I1.fpOk hle (I1.hok.fresh hle)
end
section
variable {X:Cx}{a b:Expr}{p pos:Pos}
theorem qzk (b1 b2:Bool) {es:List Expr}{k:Nat}{tpos:Pos}{ta:TA}(hg:Gl X "zip") (hm:X.mg "zip"=none) (ha:SA X [a,b] ta) (hs:starEach [a,b] X.env=[(false,eval a X.env),(false,eval b X.env)]:=by rfl) (hs2:starEach [b] X.env=[(false,eval b X.env)]:=by rfl):
  SI X (.Tuple es k tpos) (.Call (.Name "zip" p) [a,b] [] pos) (iZk b1 b2 ta):=⟨yA6 b1 b2 hg hm ha.h hs hs2⟩
end
section
variable {A:TA}{σ σc:St}{H:Hp}{g:TG}{tt:TT}{te:TE}{Qd:List V->Hp->Prop}
theorem zM2 {b:Bool}{xs ys:List V}(h:hoK b xs=hoK b ys):xs=ys:=by
 cases b with
 | false=>exact HO.lst.inj h
 | true=>exact HO.tup.inj h
end
end L2
namespace TS
open PySem PyProof.Rows Builtin Builtin.Str
section
variable {prog:Program}{w:World}{A:Around}{E:Value->Shared->Prop}{s:Shared}
theorem zIz {x y:Str}{t u:Tok}{Q:Value->Shared->Prop}(hy:(y.length == 0)=false) (hsz:x.length+2<=sizeLine)
  (h:∀(l:List (Str × Tok)) k,l.map (·.1)=Txt.split x y->Q (.ref s.heap.objs.size) { s with heap:=s.heap.push { cls:=.type "list",data:=.seq (strValues l).toArray },toks:=k }):wpAny (model prog w) A (call (.builtin "str.split") [.str x t,.str y u]) Q E s:=by
 have hn:(partsBetween x (occurrences x y 0 x.length (x.length+1)) y.length).length<=sizeLine:=by have e1:=StrLaws.occ_length_le x y 0 x.length (x.length+1);rw[length_partsBetween];lia
 cases h1:(decide (x.length<y.length) || decide (strKind x<strKind y))with
 | false=>
  cases hf:(occurrences x y 0 x.length (x.length+1)).isEmpty with
  | false=>
   refine call_meets u9 (typeIs_str _ _ _) PySem.F.entry_str_split (PySem.F.args_str_split_2 _ _) (meets_str_split_sep x y t u h1 hy hf (by nofun) hn) (?_)
   rw[strsFrom_eq]
   exact h (numbered s.toks _) _ ((numbered_texts _ _).trans ((xf (ne_true_of_eq_false h1)).trans (xf (ne_true_of_eq_false hf))).symm)
  | true=>exact call_meets u9 (typeIs_str _ _ _) PySem.F.entry_str_split (PySem.F.args_str_split_2 _ _) (meets_str_split_not_found x y t u h1 hy hf) (h [(x,t)] s.toks ((xf (ne_true_of_eq_false h1)).trans (xc hf)).symm)
 | true=>exact call_meets u9 (typeIs_str _ _ _) PySem.F.entry_str_split (PySem.F.args_str_split_2 _ _) (meets_str_split_cannot_occur x y t u h1) (h [(x,t)] s.toks (xc h1).symm)
end
end TS
namespace L2
open PySem PySem.Spec PyProof.Rows TS
section
variable {X:Cx}{K:PySem.W.Frag}
noncomputable def rLeS:R2:=fun x y H Q=>∃i j,x=.str i/\y=.str j/\Q (.bl (!decide (j.cps.toList<i.cps.toList))) H
theorem zLc:OpR X (compareOp .LtE) rLeS:=by
 intro pins s σ H x y v u Q I rx ry h
 obtain⟨i,j,rfl,rfl,q⟩:=h
 obtain⟨t,rfl⟩:=rx
 obtain⟨t',rfl⟩:=ry
 exact P.le_str ⟨.bl _,H,I,rfl,q⟩
noncomputable def zZz:List V->Hp->VK->Prop:=fun xs H Q=>∃x n,xs=[.str x]/\PySem.intText? x=some n/\x.length<=640/\Q (.int n) H
theorem zN4:zAu X (.type "int") zZz:=by
 intro pins s σ H xs us Q I r h
 obtain⟨x,n,rfl,hn,hl,q⟩:=h
 obtain⟨u,rfl,t,rfl⟩:=vals1 r
 exact PySem.W.KIN.call_text hn hl ⟨.int n,H,I.tok _,⟨_,rfl⟩,q⟩
theorem zK5:∀{ys:List Str}{us:List Value},Vals (ys.map V.str) us->StrsAre us ys
 | [],_,.nil=>.nil
 | y::ys,_,.cons ⟨t,e⟩ r=>by subst e;exact .cons _ _ (zK5 r)
theorem zF7:∀(l:List (Str × Tok)),Vals ((l.map (·.1)).map V.str) (strValues l)
 | []=>.nil
 | (x,t)::l=>.cons ⟨t,rfl⟩ (zF7 l)
noncomputable def rJoin (K:PySem.W.Frag):V->List V->Hp->VK->Prop:=fun x vs H Q=>∃sep a ys,x=.str sep/\vs=[.ref a]/\SqL K H a (ys.map V.str)/\sep.length<=16/\(ys.map (·.length)).sum+ys.length<=1048576/\Q (.str (Txt.join sep ys)) H
theorem zTg (hK:X.K=K:=by rfl):MtR X "str.join" (rJoin K):=by
 subst hK
 intro pins s σ H x xs v us Q I rx r h
 obtain⟨sep,a,ys,rfl,rfl,hq,h1,h2,q⟩:=h
 obtain⟨t,rfl⟩:=rx
 obtain⟨u,rfl,ru⟩:=vals1 r
 cases ru
 obtain⟨its,rv,pl,hz⟩:=I.list hq
 exact join_listW pl.isList (by simpa using zK5 rv) h1 h2 fun t' k=>⟨.str _,H,I.tok _,⟨_,rfl⟩,q⟩
noncomputable def zW4:V->List V->Hp->VK->Prop:=fun x vs H Q=>∃z y,x=.str z/\vs=[.str y]/\0<y.length/\z.length<=100000/\(Txt.split z y).length<=sizeLine/\∀l,H l=none->Q (.ref l) (upd H l (.lst ((Txt.split z y).map V.str)))
theorem zOu:MtR X "str.split" zW4:=by
 intro pins s σ H x xs v us Q I rx r h
 obtain⟨z,y,rfl,rfl,h0,h1,h2,q⟩:=h
 obtain⟨t,rfl⟩:=rx
 obtain⟨u,rfl,t',rfl⟩:=vals1 r
 refine zIz (by simp;lia) (by rw[xZ];lia) fun l k e=>?_
 have e':(Txt.split z y).map V.str=(l.map (·.1)).map V.str:=by rw[e]
 refine⟨.ref s.heap.objs.size,_,I.laid (fun b ob q=>xi _ q) (xh _) ?_,rfl,q _ (I.hok.fresh (xh _))⟩
 exact⟨by rw[xq];exact h2,_,0,by rw[e'];exact zF7 l,xw _ rfl⟩
noncomputable def zW3:V->List V->Hp->VK->Prop:=fun x vs H Q=>∃z y,x=.str z/\vs=[.str y]/\Q (.bl (Txt.startswith z y)) H
theorem zEi:MtR X "str.startswith" zW3:=by
 intro pins s σ H x xs v us Q I rx r h
 obtain⟨z,y,rfl,rfl,q⟩:=h
 obtain⟨t,rfl⟩:=rx
 obtain⟨u,rfl,t',rfl⟩:=vals1 r
 exact SC.startswith ⟨.bl _,H,I,rfl,q⟩
noncomputable def Its (x:Str):It:=⟨fun i _=>i<x.cps.size,fun i H v H'=>H'=H/\∃c,x.cps[i]?=some c/\v=.str ⟨#[c]⟩,fun i _=>x.cps.size<=i⟩
theorem zNh {P:Program}{w:World}{tg:Expr}(it:Addr) (x:Str) (t:Tok):Turn P w K tg (Its x) [it] it (fun i h=>i<=x.cps.size/\h.IsStrIter it "str_ascii_iterator" x t i) where
 mem:=by simp
 obj:=fun i h st b hb=>by
  have e:b=it:=by simpa using hb
  subst e
  obtain⟨_,o,e,c,d⟩:=st
  exact⟨o,e,fun v z=>by rw[d]at z;cases z⟩
 keep:=fun i h h' st k=>⟨st.1,let ⟨o,ho,r⟩:=st.2;⟨o,k it (by simp) o ho,r⟩⟩
 item:=by
  intro X hP hw hK hc i pins s σ H E I hf st hg
  subst hP hw hK
  obtain⟨f0,f1,f2,f3,f4,f5⟩:=hf it (by simp)
  have hg:i<x.cps.size:=hg
  refine wpAny_pyNext_ascii_item st.2 (c:=x.cps[i]) (by simp[hg]) fun h' st' sb=>?_
  have I1:=I.turned (t':=s.toks+1) (fun b o hb e=>(sb.2 b hb).trans e) f0 f1 f3 f4 f5
  obtain⟨o,e,c,d⟩:=id st'
  exact⟨_,rfl,zPe e c d (by decide) ⟨.str ⟨#[x.cps[i]]⟩,H,I1,⟨_,rfl⟩,⟨rfl,_,by simp[hg],rfl⟩,⟨hg,st'⟩,fun b hb=>(hf b hb).1⟩⟩
 done:=by
  intro X hP hw hK hc i pins s σ H E I hf st hg
  subst hP hw hK
  obtain⟨f0,f1,f2,f3,f4,f5⟩:=hf it (by simp)
  have hg:x.cps.size<=i:=hg
  exact wpAny_pyNext_ascii_end (I.ok.hd hc) st.2 (by simp[hg]) fun h' eb=>⟨rfl,I.turned (fun b o hb e=>eb b o hb e) f0 f1 f3 f4 f5⟩
 self:=fun _ _ _ _ _ st h=>wpAny_pyIter_striter_ascii st.2 h
end
end L2
namespace TX
open PySem PySem.Builtin PySem.Builtin.Str
noncomputable abbrev ls (x:Str):List Nat:=x.cps.toList
theorem zE8 {x y:Str}(h:ls x=ls y):x=y:=by
 cases x;cases y
 exact congrArg Str.mk (Array.toList_inj.mp h)
noncomputable def jn (c:Nat):List (List Nat)->List Nat
 | []=>[]
 | a::l=>a++l.flatMap fun p=>c::p
theorem zM9 (g:Array Nat):∀(l:List Str) (a:Array Nat),(l.foldl (fun acc p=>acc++g++p.cps) a).toList=a.toList++l.flatMap fun p=>g.toList++p.cps.toList
 | [],a=>by simp
 | p::l,a=>by rw[uR,zM9 g l];simp
theorem zC7 (c:Nat) (ps:List Str):ls (glued ⟨#[c]⟩ ps)=jn c (ps.map ls):=by
 cases ps with
 | nil=>rfl
 | cons p ps=>
  show((List.drop 1 (p::ps)).foldl (fun acc q=>acc++(#[c]:Array Nat)++q.cps) ((p::ps).headD Str.empty).cps).toList=_
  rw[zM9]
  simp only[jn,xx,List.flatMap_map,List.drop_one,List.tail_cons,List.headD_cons]
  rfl
theorem join_split (x:Str) (c:Nat):glued ⟨#[c]⟩ (Txt.split x ⟨#[c]⟩)=x:=by
 unfold Txt.split
 split
 ·exact zE8 (by rw[zC7];simp[jn])
 ·split
  ·exact zE8 (by rw[zC7];simp[jn])
  ·exact StrLaws.glued_between_self x ⟨#[c]⟩ _
noncomputable def dg (m:Nat):List Nat:=(Nat.toDigits 10 m).map Char.toNat
theorem zMm {m:Nat}(h:10<=m):dg m=dg (m / 10)++[(Nat.digitChar (m % 10)).toNat]:=by
 have hm:m % 10<10:=vD m (by decide)
 have t:Nat.toDigits 10 (m / 10)++Nat.toDigits 10 (m % 10)=Nat.toDigits 10 (10*(m / 10)+m % 10):=Nat.toDigits_append_toDigits (by decide) (by omega) hm
 rw[Nat.div_add_mod]at t
 unfold dg
 rw[<- t,vk,Nat.toDigits_of_lt_base hm]
 rfl
theorem zMn {m:Nat}(h:m<10):dg m=[(Nat.digitChar m).toNat]:=by
 unfold dg
 rw[Nat.toDigits_of_lt_base h];rfl
theorem dc:∀d:Nat,d<10->(Nat.digitChar d).toNat=48+d:=by decide
theorem zR5 (m:Nat):∀c∈dg m,48<=c/\c<=57:=by
 induction m using Nat.strongRecOn with
 | _ m ih=>
  by_cases h:m<10
  ·rw[zMn h];intro c hc;rw[xV.mp hc,dc m h];omega
  ·rw[zMm (by omega)]
   intro c hc
   rcases vn.mp hc with z|z
   ·exact ih (m / 10) (by omega) c z
   ·rw[xV.mp z,dc _ (vD m (by decide))];have:=vD m (show 0<10 by decide);omega
theorem zR4:∀(k m:Nat),1<=k->m<10 ^ k->1<=(dg m).length/\(dg m).length<=k
 | 0,m,h,_=>by omega
 | 1,m,_,h=>by rw[zMn (by simpa using h)];simp
 | k+2,m,_,h=>by
  by_cases c:m<10
  ·rw[zMn c];simp
  ·rw[zMm (by omega),xE]
   have:=zR4 (k+1) (m / 10) (by omega) (by rw[Nat.div_lt_iff_lt_mul (by decide)];rw[Nat.pow_succ]at h;exact h)
   simp;omega
noncomputable def nm (n:Int):List Nat:=if n<0 then 45::dg n.natAbs else dg n.natAbs
theorem yAk (n:Int):ls (Str.ofString (toString n))=nm n:=by
 cases n with
 | ofNat m=>
  have:nm (Int.ofNat m)=dg m:=by unfold nm;rw[xf (by simp)];rfl
  rw[this];exact PySem.W.KIN.signs_num m
 | negSucc m=>
  have e0:nm (Int.negSucc m)=45::dg (m+1):=by unfold nm;rw[xc (Int.negSucc_lt_zero m)];rfl
  rw[e0]
  show(Str.ofString ("-"++Nat.repr (m+1))).cps.toList=_
  rw[PyProof.Rows.signs_ofString,String.toList_append,vk]
  unfold dg
  rw[Nat.toList_repr]
  rfl
end TX
namespace L2
open PySem PySem.Spec PyProof.Rows TS
section
variable {X:Cx}{K:PySem.W.Frag}
theorem zCo {x:Str}{v:V}{u:Value}{pos:Pos}(hg:Gl X x) (hm:X.mg x=some u) (r:RelV v u) (hd:(x == ("__debug__":Str))=false:=by decide):SE X (.Name x pos) (tC v):=⟨zSs hg hm r hd⟩
variable {σ:St}{H:Hp}{Q:VK}
end
end L2
namespace TX
open PySem PySem.Builtin PySem.Builtin.Str TS L2
noncomputable def tn (n:Int):Str:=Str.ofString (toString n)
noncomputable abbrev sD:Str:=Str.ofString "."
noncomputable abbrev sM:Str:=Str.ofString "-"
theorem eM:sM=⟨#[45]⟩:=by rfl
theorem zTc {n:Int}{c:Nat}(h:c∈nm n):c=45\/(48<=c/\c<=57):=by
 unfold nm at h
 split at h
 ·rcases xk.mp h with z|z
  ·exact .inl z
  ·exact .inr (zR5 _ c z)
 ·exact .inr (zR5 _ c h)
theorem zXl (n:Int):ls (tn n)=nm n:=yAk n
theorem zBi (x:Str):x.length=(ls x).length:=by simp[Str.length]
end TX
namespace L2
open PySem PySem.Spec PyProof.Rows
structure Noted (fs:List Addr) (e:Addr) (old:Option Addr) (h h':Heap):Prop where
 keep:∀b o,b ∉ fs->b≠e->old≠some b->h.get? b=some o->h'.get? b=some o
 slot:∀b o,b∈fs->h.get? b=some o->∃sl,h'.get? b=some { o with slots:=sl }
 exc:∀oe vs,h.get? e=some oe->oe.data=.fields vs->h'.get? e=some (oe.mapFields (·.setIfInBounds 1 (.ref h.objs.size)))
 tb:∃oT ts,h'.get? h.objs.size=some oT/\oT.data=.fields ts/\ts[3]?=some .none
noncomputable def Tbk (h:Heap) (e:Addr) (vs:Array Value):Option Addr->Prop
 | none=>vs[1]?=some .none
 | some T=>vs[1]?=some (.ref T)/\T≠e/\∃oT ts,h.get? T=some oT/\oT.data=.fields ts/\ts[3]?=some .none
section
variable {M:Model}{A:Around}{E:Value->Shared->Prop}{s:Shared}{base:Heap}{env:Env}{outer:List Env}{L e:Addr}{oe:Obj}{vs:Array Value}{Q:Unit->Shared->Prop}
theorem zFr {head:Value}{hadNext:Bool}(hfr:A.frames=some (env::outer)) (hl:s.heap.FunFrames base (env::outer)) (hf:env.frame=some L) (he:s.heap.get? e=some oe) (hd:oe.data=.fields vs) (hsz:1<vs.size)
  (h:∀h',Noted (frs (env::outer)) e none s.heap h'->Q () { s with heap:=h' }):
  wpAny M A (do let a <- frameOf env;let pl <- entryPlaceOf L hadNext;let b <- EntryCells.newEntry head a .none (rawInt L) .none pl;setField (.ref e) 1 b) (fun _ s'=>wpAny M A (setFlight (.ref e) none) Q E s') E s:=by
 have nfr:∀b∈frs (env::outer),∃o,s.heap.get? b=some o/\∀ws,o.data≠.fields ws:=fun b hb=>(hl.mem hb).2
 have hene:e ∉ frs (env::outer):=fun hm=>by
  obtain⟨o,ho,hnf⟩:=nfr e hm
  rw[he]at ho;cases ho;exact hnf vs hd
 refine xa (wpAny_frameOf_fun hfr hl hf fun h1 hs1=>?_)
 refine xa (wpAny_entryPlaceOf fun pl hpl=>?_)
 unfold EntryCells.newEntry newFields
 refine xa (vf ?_ (hpl.sizeOk5 _ _ _ _ _))
 have z1:h1.objs.size=s.heap.objs.size:=hs1.1
 have he1:h1.get? e=some oe:=(hs1.2.1 e hene).trans he
 generalize hN:({ cls:=.type "traceback",dict:=none,data:=.fields ([head,.ref L,.none,rawInt L,.none]++(if pl.isEmpty then List.replicate 6 Value.none else pl)).toArray }:Obj)=oN
 have dN:oN.data=.fields ([head,.ref L,.none,rawInt L,.none]++(if pl.isEmpty then List.replicate 6 Value.none else pl)).toArray:=by rw[<- hN]
 have fN:oN.isFreed=false:=by rw[<- hN];rfl
 have he2:=xi oN he1
 refine vK he2 hd hsz ?_
 have hTe:h1.objs.size≠e:=vz (xj he1)
 have hd3:=vL hd (·.setIfInBounds 1 (Value.ref h1.objs.size))
 have he3:=vH (Obj.mapFields (·.setIfInBounds 1 (Value.ref h1.objs.size))) he2 (uT hd3)
 have hT3:=(vt (h1.push oN) (Obj.mapFields (·.setIfInBounds 1 (Value.ref h1.objs.size))) (xr hTe)).trans (xw h1 fN)
 unfold setFlight
 refine xa (xM he3 hd3 (x:=.ref h1.objs.size) (by simp[hsz]) ?_)
 rw[xc (show(Value.ref h1.objs.size != Value.none)=true from by simp)]
 refine vK hT3 dN (by simp only[xu,xE,xA,uA] <;> lia) (h _ ?_)
 have keep:∀b o,b≠e->h1.get? b=some o->(((h1.push oN).update e (Obj.mapFields (·.setIfInBounds 1 (Value.ref h1.objs.size)))).update h1.objs.size (Obj.mapFields (·.setIfInBounds 3 ((none:Option Addr).elim Value.none fun f=>rawInt f)))).get? b=some o:=fun b o hbe hb=>by
  have hbT:h1.objs.size≠b:=vz (xj hb)
  rw[vt _ _ hbT,vt _ _ (xr hbe)]
  exact xi _ hb
 refine⟨fun b o hb hbe _ eb=>keep b o hbe ((hs1.2.1 b hb).trans eb),fun b o hb eb=>?_,fun oe' vs' ee _=>?_,?_⟩
 ·obtain⟨sl,q⟩:=hs1.2.2 b o eb
  exact⟨sl,keep b _ (fun z=>hene (z ▸ hb)) q⟩
 ·rw[he]at ee;cases ee
  rw[vt _ _ hTe,<- z1]
  exact he3
 ·rw[<- z1]
  refine⟨_,_,vH _ hT3 (uT (vL dN _)),vL dN _,?_⟩
  first|(simp;done)|(rcases hpl with rfl|⟨_,_,_,_,_,_,_,rfl⟩ <;> simp)
theorem zHw {old:Option Addr}(hfr:A.frames=some (env::outer)) (hl:s.heap.FunFrames base (env::outer)) (hf:env.frame=some L) (he:s.heap.get? e=some oe) (hd:oe.data=.fields vs) (ht:Tbk s.heap e vs old)
  (h:∀h',Noted (frs (env::outer)) e old s.heap h'->Q () { s with heap:=h' }):wpAny M A (noteFrame (.ref e) env) (fun _ s'=>wpAny M A (setFlight (.ref e) none) Q E s') E s:=by
 unfold noteFrame
 simp only[hf]
 cases old with
 | none=>
  have h1:vs[1]?=some .none:=ht
  refine xa (xM he hd h1 ?_)
  rw[xf (by decide)]
  exact zFr hfr hl hf he hd (x4.mp h1).1 h
 | some T=>
  obtain⟨h1,hTe,oT,ts,hT,hdT,h3⟩:=ht
  refine xa (xM he hd h1 ?_)
  rw[xc (show(Value.ref T != Value.none)=true from by simp)]
  refine xa (xM hT hdT h3 ?_)
  rw[xf (show ¬ ((Value.none == rawInt L)=true)from by simp[rawInt])]
  refine xa (vK hT hdT (x4.mp h3).1 ?_)
  have other:∀b,b≠T->(s.heap.update T (Obj.mapFields (·.setIfInBounds 3 Value.none))).get? b=s.heap.get? b:=fun b hb=>vt _ _ (xr hb)
  have sz:(s.heap.update T (Obj.mapFields (·.setIfInBounds 3 Value.none))).objs.size=s.heap.objs.size:=Heap.size_after_update ..
  have rec':∀b o,s.heap.get? b=some o->(∀ws,o.data≠.fields ws)->b≠T:=fun b o hb hnf q=>by
   rw[q,hT]at hb;cases hb;exact hnf ts hdT
  refine zFr (s:={ s with heap:=s.heap.update T (Obj.mapFields (·.setIfInBounds 3 Value.none)) }) hfr (hl.of_keeps fun b o hb hnf=>⟨o,(other b (rec' b o hb hnf)).trans hb,rfl⟩) hf ((other e (xr hTe)).trans he) hd (x4.mp h1).1 fun h' N=>h h' ?_
  refine⟨fun b o hb hbe ho eb=>N.keep b o hb hbe (by simp) ((other b fun z=>ho (by rw[z])).trans eb),fun b o hb eb=>?_,fun oe' vs' ee dd=>?_,?_⟩
  ·obtain⟨o',q,hnf⟩:=(hl.mem hb).2
   rw[eb]at q;cases q
   exact N.slot b o hb ((other b (rec' b o eb hnf)).trans eb)
  ·have:=N.exc oe' vs' ((other e (xr hTe)).trans ee) dd
   rw[show({ s with heap:=s.heap.update T (Obj.mapFields (·.setIfInBounds 3 Value.none)) }:Shared).heap.objs.size=s.heap.objs.size from sz]at this
   exact this
  ·have:=N.tb
   rw[show({ s with heap:=s.heap.update T (Obj.mapFields (·.setIfInBounds 3 Value.none)) }:Shared).heap.objs.size=s.heap.objs.size from sz]at this
   exact this
theorem zLo {old:Option Addr}(hfr:A.frames=some (env::outer)) (hl:s.heap.FunFrames base (env::outer)) (hf:env.frame=some L) (he:s.heap.get? e=some oe) (hd:oe.data=.fields vs) (ht:Tbk s.heap e vs old)
  (h:∀h',Noted (frs (env::outer)) e old s.heap h'->Q () { s with heap:=h' }):wpAny M A (leaving env (.ref e)) Q E s:=by
 unfold leaving
 exact xa (zHw hfr hl hf he hd ht h)
end
end L2
namespace L2
open PySem PySem.Spec PyProof.Rows
section
variable {prog:Program}{w:World}{A:Around}{E:Value->Shared->Prop}{h:Heap}{g:Array GenState}{d:Drawn}{t:Nat}{os:OsState}
variable {nm q:Str}{C N:Addr}{bs bm bmB:List Value}{hdct:Bool}{sn:List Str}{sub:List Value}{ab:Bool}{col:Option Bool}{dd:Option Addr}{k0 k1 k2 k3 k5:Option Value}{B newId initId:String}
theorem zCu (F:ExcBaseFacts B newId initId bmB) (T:OwnTail h bmB bm) {mN:Str->Option Value}{rest:List Value}{fI:Addr}{oI:Obj}{Q:Fin->Shared->Prop}
  (hC:h.get? C=some (excClassObj nm q C N bs bm hdct sn sub ab col dd k0 k1 k2 k3 k5 newId)) (hn:h.Ns N mN) (hi:mN "__init__"=some (.ref fI)) (hfI:h.get? fI=some oI) (hfc:oI.cls=.type "function")
  (hq:∀h',Heap.MadeExcOf h h' (h.objs.size+1) (.ref C) rest->wpAny (model prog w) A (call (.ref fI) (.ref (h.objs.size+1)::rest)) (fun r s'=>r=.none/\Q (.done (.ret (.ref (h.objs.size+1)))) s') E ⟨h',g,d,t,os⟩) (hrest:rest.length<=sizeLine):
  wpAny (model prog w) A (Builtin.«type.__call__» ⟨.ref C::rest,[]⟩) Q E ⟨h,g,d,t,os⟩:=by
 repeat (first|with_reducible refine uV hC ?_|with_reducible refine wpAny_madeBy_exc hC ?_|wp_step)
 refine codeAny_call_builtin_code (Code.quiet_builtin _ F.quiet) (wpAny_check_new_subT F T hC ?_)
 refine codeAny_exc_new_subT F T hC ?_ hrest
 show wpAny _ _ _ _ _ _
 generalize hoT:({ cls:=.type "tuple",data:=.seq rest.toArray }:Obj)=oT
 generalize hoE:({ cls:=.ref C,data:=.fields #[.ref h.objs.size,.none,.none,.none,.bool false,.none] }:Obj)=oE
 have fT:oT.isFreed=false:=by rw[<- hoT];rfl
 have fE:oE.isFreed=false:=by rw[<- hoE];rfl
 have kp:∀b o,h.get? b=some o->((h.push oT).push oE).get? b=some o:=fun b o e=>xi _ (xi _ e)
 have hC1:=kp _ _ hC
 have hn1:((h.push oT).push oE).Ns N mN:=let ⟨o,es,ep,e,r⟩:=hn;⟨o,es,ep,kp _ _ e,r⟩
 have hget:((h.push oT).push oE).get? (h.objs.size+1)=some oE:=by
  have:=xw (h.push oT) fE
  rwa[vi]at this
 have hcE:oE.cls=.ref C:=by rw[<- hoE]
 have hcC:(Value.ref C::bm).contains (.ref C)=true:=by simp
 have T1:=T.keeps kp
 unfold isInstance
 repeat (first|(with_reducible refine uV hget ?_;rw[hcE])|(with_reducible refine wpAny_isSubtype_exc hC1 ?_;rw[hcC])|wp_step)
 show wpAny _ _ (typeLookup (.ref C) _) _ _ _
 refine wpAny_typeLookup_tail hC1 hn1 T1 F.mroIs F.init.lookup ?_
 rw[hi]
 refine xG (xa ?_)
 unfold bindSpecial
 refine xa (ue (T:="function") ⟨_,kp _ _ hfI,hfc⟩ ?_)
 rw[xc (by decide)]
 refine xg (xa (xJ (hq _ ⟨kp,Heap.get?_none_of_le (Nat.le_succ _),h.objs.size,by rw[hoE];exact hget,Heap.get?_none_of_le (xh _),?_⟩) (fun r s' hr=>?_) fun _ _ x=>x))
 ·rw[hoT]
  exact xi _ (xw h fT)
 ·obtain⟨rfl,hQ⟩:=hr
  wp_walk
  exact hQ
theorem zJr (F:ExcBaseFacts B newId initId bmB) (T:OwnTail h bmB bm) {mN:Str->Option Value}{rest:List Value}{fI:Addr}{oI:Obj}{Q:Value->Shared->Prop}
  (hC:h.get? C=some (excClassObj nm q C N bs bm hdct sn sub ab col dd k0 k1 k2 k3 k5 newId)) (hn:h.Ns N mN) (hi:mN "__init__"=some (.ref fI)) (hfI:h.get? fI=some oI) (hfc:oI.cls=.type "function")
  (hq:∀h',Heap.MadeExcOf h h' (h.objs.size+1) (.ref C) rest->wpAny (model prog w) (A.under (.builtin "type.__call__" ⟨.ref C::rest,[]⟩)) (call (.ref fI) (.ref (h.objs.size+1)::rest)) (fun r s'=>r=.none/\Q (.ref (h.objs.size+1)) s') E ⟨h',g,d,t,os⟩) (hrest:rest.length<=sizeLine):
  wpAny (model prog w) A (call (.ref C) rest) Q E ⟨h,g,d,t,os⟩:=by
 have f1:=tc_lookup
 have f2:=tc_bind (.ref C)
 have hT:(⟨h,g,d,t,os⟩:Shared).TypeIs (.ref C) "type":=⟨_,hC,rfl⟩
 refine wpAny_call (codeAny_of_tree ?_)
 show wpAny _ _ (callAny (.ref C) _) _ _ _
 repeat (any_goals (first|assumption|with_reducible refine uV hC ?_|wp_step))
 refine⟨rfl,?_⟩
 exact codeAny_call_builtin_at (Code.quiet_builtin _ (by decide +kernel)) entry_typeCall (wpAny_check_type_call_sub hC (zCu F T hC hn hi hfI hfc (fun h' hm=>hq h' hm) hrest))
end
end L2
namespace L2
open PySem PySem.Spec PyProof.Rows
theorem zJ2 (self:Value):refuseLoop self "__setattr__" [.type "ValueError",.type "Exception",.type "BaseException",.type "object"]=pure ():=by kernel_rfl
noncomputable def zGk:List Value->Bool
 | .ref _::r=>zGk r
 | l=>l == [.type "ValueError",.type "Exception",.type "BaseException",.type "object"]
theorem zCi (self:Value):∀{l:List Value},zGk l=true->refuseLoop self "__setattr__" l=pure ()
 | [],e=>by cases e
 | v::r,e=>by
  cases v with
  | ref c=>rw[refuseLoop_ref];exact zCi self (l:=r) e
  | _=>have e:=xQ.mp e;rw[e];exact zJ2 self
noncomputable def zMc (K:PySem.W.Frag) (C:Addr):Bool:=(PySem.W.clsIn K C).any fun cd=>zGk cd.mro
structure ClsE (K:PySem.W.Frag) (C:Addr):Prop where
 ga:PySem.W.findIn K (.ref C) "__getattribute__"=some (some (.builtin "BaseException.__getattribute__"))
 gn:PySem.W.findIn K (.ref C) "__getattr__"=some none
 hd:PySem.W.hasDictIn K C=true
 po:zMc K C=true
 sa:PySem.W.findIn K (.ref C) "__setattr__"=some (some (.builtin "object.__setattr__"))
 mb:PySem.W.mroIn K C (.type "BaseException")=some true
 mo:PySem.W.mroIn K C (.type "object")=some true
section
open PySem.W
variable {prog:Program}{w:World}{A:Around}{E:Value->Shared->Prop}{s:Shared}{K:PySem.W.Frag}{x C:Addr}{ox:Obj}{od:Option Obj}{name:Str}{R:Result->Shared->Prop}
theorem zL6 {tk:Tok}{v:Value}{r:Option Value}(X:K.In s.heap) (I:InstAt s.heap x ox C od) (c:ClsE K C) (ht:takerIn K C name=some r)
  (h:∀b,wpAny (model prog w) A.in1 (match r with|some a=>Builtin.ObjectAttr.setByDescriptor a (.ref x) v|none=>Builtin.ObjectAttr.storeInOwnDict (.ref x) (.ref C) (.str name tk) name v b)
   (fun fin s'=>match fin with|.done f=>R (.ok f) s'|.again c'=>c'.quiet=true/\codeAny (model prog w) A c' R s') (fun e s'=>R (.error e) s') s):
  codeAny (model prog w) A (.call (.builtin "object.__setattr__") ⟨[.ref x,.str name tk,v],[]⟩) R s:=by
 have SF:=PySem.F.store_object
 obtain⟨cd,hc,ho⟩:=any_some c.po
 have sub:Looks (model prog w) s.heap (isInstance (.ref x) (.type "object")) true:=I.type.andThen (looks_mroIn X c.mo)
 refine codeAny_call_builtin SF.slot.plain SF.entry (@check_slot (model prog w) _ _ s "object.__setattr__" "object" "__setattr__" (.ref x) [.str name tk,v] [] _ SF.kind SF.split sub (SF.args (.ref x) (.str name tk) v) ?_)
 obtain⟨attr,ha,hr⟩:=Option.bind_eq_some_iff.mp ht
 have hm:Looks (model prog w) s.heap (mroOf (.ref C)) cd.mro:=(looks_clsIn X hc).andThen .now
 have L3:Looks (model prog w) s.heap (Builtin.ObjectAttr.storeTaker? attr) r:=by
  cases attr with
  | none=>cases hr;exact .now
  | some a=>
   obtain⟨b,hb,rfl⟩:=Option.map_eq_some_iff.mp hr
   refine(looks_takesIn X hb).andThen ?_
   cases b <;> exact .now
 rw[osa_eq,refuse_eq]
 refine xa (xa (I.type.here (xa (hm.here ?_))));rw[zCi _ ho]
 exact xg (xa (I.type.here (xa ((looks_findIn X ha).here (xa (L3.here (h _)))))))
theorem zQx {tk:Tok}{fill expr:Bool}{Q:Value->Shared->Prop}(X:K.In s.heap) (I:InstAt s.heap x ox C od) (c:ClsE K C)
  (h:wpAny (model prog w) A.in1 (Builtin.«object.__getattribute__» ⟨[.ref x,.str name tk],[]⟩) (fun fin s'=>match fin with
   | .done (.ret v)=>wpAny (model prog w) A (handedOut v) Q E s'
   | .done _=>False
   | .again c'=>c'.quiet=true/\codeAny (model prog w) A c' (fun r s'=>match r with|.ok (.ret v)=>wpAny (model prog w) A (handedOut v) Q E s'|_=>False) s') (fun _ _=>False) s):wpAny (model prog w) A (getAttrBy (.ref x) (.str name tk) fill expr) Q E s:=by
 obtain⟨hh,g,d,t,os⟩:=s
 have L0:=I.type (M:=model prog w)
 have L1:=looks_findIn (M:=model prog w) X c.ga
 have L2:=looks_findIn (M:=model prog w) X c.gn
 have sub:Looks (model prog w) hh (isInstance (.ref x) (.type "BaseException")) true:=L0.andThen (looks_mroIn X c.mb)
 unfold getAttrBy
 refine xG (xa (L0.at (xa (L1.at ?_))))
 show wpAny _ _ (getAttrByItsOwn _ _ _ _ _ _) _ _ _
 unfold getAttrByItsOwn
 refine xa (show wpAny _ _ (typeLookup (.ref C) "__getattr__") _ _ _ from L2.at (xa (ui (xG ?_))))
 have e1:callGetattribute (.ref x) (.str name tk) (.builtin "BaseException.__getattribute__") expr=boundAndCalled (.builtin "BaseException.__getattribute__") (.ref x) (.str name tk):=by
  unfold callGetattribute
  rw[xf (by cases expr <;> decide)]
 rw[e1]
 unfold boundAndCalled
 rw[PySem.F.excAttr_ValueError.ga.bind]
 refine xa (xg (wpAny_call (codeAny_call_builtin PySem.F.excAttr_ValueError.ga.plain PySem.F.entry_bexc_ga (@check_slot (model prog w) _ _ _ "BaseException.__getattribute__" "BaseException" "__getattribute__" (.ref x) [.str name tk] [] _ (by decide +kernel) (by decide +kernel) sub (PySem.F.args_bexc_ga _ _) ?_))))
 refine xJ h (fun fin s' z=>?_) fun _ _ z=>z.elim
 cases fin with
 | done f=>cases f <;> first|exact z|exact z.elim
 | again c'=>exact⟨z.1,vR z.2 fun r s' q=>by rcases r with e|(v|_|_|_) <;> first|exact q|exact q.elim⟩
theorem zJe {v:Value}{expr:Bool}{Q:Value->Shared->Prop}(X:K.In s.heap) (I:InstAt s.heap x ox C od) (c:ClsE K C) (hf:findObj K C od name=some (.value v)) (hh:handedIn v=true) (h:Q v { s with toks:=s.toks+1 }):wpAny (model prog w) A (getAttr (.ref x) name expr) Q E s:=by
 unfold getAttr
 refine xa (wpAny_mkText (zQx (s:={ s with toks:=s.toks+1 }) X I c ?_))
 obtain⟨hh',g,d,t,os⟩:=s
 have L0:=I.type (M:=model prog w)
 have L1:=looks_find (M:=model prog w) X I hf
 refine xa (xg (xa (xg (xa (L0.at (xa (L1.at ?_)))))))
 refine xg ?_
 show wpAny _ _ (handedOut v) _ _ _
 rw[handedOut_of hh];exact xg h
theorem zJf {Q:Option Value->Shared->Prop}(ha:findIn K (.ref C) "__class__"=some (some (.builtin "object.__class__")))
  (hn:specialIn K (.builtin "object.__class__") "__get__"=some (some (.builtin "getset_descriptor.__get__"))) (htk:takesIn K (.builtin "object.__class__")=some true) (X:K.In s.heap) (I:InstAt s.heap x ox C od) (c:ClsE K C) (h:Q (some (.ref C)) { s with toks:=s.toks+1 }):
  wpAny (model prog w) A (getAttr? (.ref x) "__class__") Q E s:=by
 have hf:findObj K C od "__class__"=some (.bind (.builtin "getset_descriptor.__get__") (.builtin "object.__class__")):=by
  obtain⟨cd,hc,_⟩:=any_some c.hd
  unfold findObj
  rw[hc,Option.bind_some,ha,Option.bind_some]
  simp[hn,htk]
 unfold getAttr? getAttrBy?
 refine xa (wpAny_mkText (xa (ui (zQx (s:={ s with toks:=s.toks+1 }) X I c ?_))))
 obtain⟨hh',g,d,t,os⟩:=s
 have L0:=I.type (M:=model prog w)
 have L1:=looks_find (M:=model prog w) X I hf
 refine xa (xg (xa (xg (xa (L0.at (xa (L1.at ?_)))))))
 unfold Builtin.ObjectAttr.bindTo
 refine xa (xG (wpAny_call (class_get (s:={ heap:=hh',gens:=g,drawn:=d,toks:=t+1,os:=os }) (ox:=ox) (od:=od) X I c.mo ?_)))
 refine xg ?_
 exact handed_on rfl (xg h)
theorem zP4 {ox:Obj}{od:Option Obj}(c:ClsE K C) (ha:findIn K (.ref C) "__class__"=some (some (.builtin "object.__class__")))
  (hn:specialIn K (.builtin "object.__class__") "__get__"=some (some (.builtin "getset_descriptor.__get__"))) (htk:takesIn K (.builtin "object.__class__")=some true):
  KitX K (.ref x) (.ref C) (fun h=>InstAt h x ox C od) where
 ty:=fun _ _ _ I=>I.type
 it:=fun _ _ X _=>by
  obtain⟨cdD,hcD,_⟩:=any_some c.hd
  unfold clsIn at hcD
  split at hcD
  ·rename_i c' d' cd' sl' ho
   intro A' Q' E' s' k q
   unfold isType loadHead
   exact xa (wpAny_loadPart (k _ _ (X _ _ ho)) (xg q))
  ·cases hcD
 ne:=fun h tp dd its n sl X htp=>by
  obtain⟨cdD,hcD,_⟩:=any_some c.hd
  refine uD.mpr fun q=>?_
  have e:C=tp:=Value.ref.inj (xQ.mp q)
  subst e
  unfold clsIn at hcD
  split at hcD
  ·rename_i c' d' cd' sl' ho
   have z:=(X _ _ ho).symm.trans htp
   cases z
  ·cases hcD
 ca:=fun X I k=>zJf ha hn htk X I c k
end
end L2
namespace L2
open PySem PySem.Spec PyProof.Rows
section
variable {prog:Program}{w:World}{A:Around}{E:Value->Shared->Prop}{s:Shared}{K:PySem.W.Frag}{e C:Addr}{oe:Obj}{vs:Array Value}{name:Str}{v:Value}
theorem zRx {Q:Unit->Shared->Prop}(X:K.In s.heap) (he:s.heap.get? e=some oe) (hc:oe.cls=.ref C) (hdn:oe.dict=none) (hdt:oe.data=.fields vs)
  (c:ClsE K C) (ht:PySem.W.takerIn K C name=some none)
  (h:∀h',h'.get? e=some { oe with dict:=some s.heap.objs.size }->h'.Ns1 s.heap.objs.size (fun y=>if y=name then some v else none)->(∀b o,b≠e->s.heap.get? b=some o->h'.get? b=some o)->Q () { s with heap:=h',toks:=s.toks+2 }):
  wpAny (model prog w) A (setAttr (.ref e) name v) Q E s:=by
 obtain⟨cls,dict,data,slots⟩:=oe
 simp only at hc hdn hdt
 subst hc hdn hdt
 have J:PySem.W.InstAt s.heap e ⟨.ref C,none,.fields vs,slots⟩ C none:=⟨he,rfl,rfl,trivial⟩
 refine PySem.W.set_plain X J c.sa (zL6 (s:={ s with toks:=s.toks+1 }) (r:=none) X J c ht fun b=>?_)
 obtain⟨cd,hcd,hd'⟩:=PySem.W.any_some c.hd
 refine xa (xg (xa (xa (wpAny_loadPart he (xa (PySem.W.Looks.here (s:={ s with toks:=s.toks+1 }) (PySem.W.looks_clsIn X hcd) ?_))))))
 rw[hd']
 rw[xf (by simp)]
 show wpAny _ _ (alloc { cls:=.type "dict",data:=.dict #[] } >>= _) _ _ _
 refine xa (wpAny_alloc ?_)
 have he1:=xi ({ cls:=.type "dict",data:=.dict #[] }:Obj) he
 refine xa (wpAny_update he1 ?_)
 show wpAny _ _ (pure (some _)) _ _ _
 refine xg (xa (xg (xa ?_)))
 have hne:e≠s.heap.objs.size:=xt (xj he)
 have hd1:((s.heap.push ({ cls:=.type "dict",data:=.dict #[] }:Obj)).update e fun o=>{ o with dict:=some s.heap.objs.size }).get? s.heap.objs.size=some { cls:=.type "dict",data:=.dict #[] }:=
  (vt _ _ hne).trans (xw _ rfl)
 have he2:((s.heap.push ({ cls:=.type "dict",data:=.dict #[] }:Obj)).update e fun o=>{ o with dict:=some s.heap.objs.size }).get? e=some ⟨.ref C,some s.heap.objs.size,.fields vs,slots⟩:=vH _ he1 rfl
 have n1:((s.heap.push ({ cls:=.type "dict",data:=.dict #[] }:Obj)).update e fun o=>{ o with dict:=some s.heap.objs.size }).Ns1 s.heap.objs.size fun _=>none:=.of_empty ⟨_,_,_,hd1,rfl,fun x hx=>by simp at hx,fun x=>by simp[nsFind,findBy]⟩
 refine wpAny_nsSet1 (s:={ s with heap:=_,toks:=s.toks+1 }) n1 fun h' hn2 hs2=>?_
 obtain⟨oD,esD,epD,hoD,hdD,hcD⟩:=hn2.count (PySem.Within.cons (ns:=[]) name v fun x hx=>absurd rfl hx)
 refine xa (wpAny_lookBehind hoD (by rw[hdD];exact pastItsLine_dict (xp hcD (show 1<=sizeLine+1 by decide))) ?_)
 refine xg (h h' ((hs2.2 e hne).trans he2) hn2 fun b o hb eb=>?_)
 have hbn:b≠s.heap.objs.size:=xt (xj eb)
 rw[hs2.2 b hbn,vt _ _ (xr hb)]
 exact xi _ eb
end
end L2
namespace L2
open PySem PySem.Spec PyProof.Rows
noncomputable def XO (a C:Addr) (dx:Option Addr) (fr:Bool):Heap->Prop:=fun h=>∃vs sl,h.get? a=some ⟨.ref C,dx,.fields vs,sl⟩/\1<vs.size/\(fr=true->vs[1]?=some .none)
section
variable {P:Program}{w:World}{H:Hp}{h:Heap}{a C:Addr}{dx:Option Addr}{fr:Bool}
theorem XO.ok (x:XO a C dx fr h):ObjOk P w H h a (.ext (XO a C dx fr)):=⟨x,let ⟨_,_,e,_⟩:=x;⟨_,e⟩,fun _ _ ⟨vs,sl,e,z⟩ k=>⟨vs,sl,k _ e,z⟩⟩
end
section
variable {X:Cx}{pins:List (Addr × Obj)}{σ:St}{H:Hp}{s:Shared}
theorem Inv.more {s0:Shared}{H0:Hp}{f:Addr}{o:HO}(I0:Inv X pins σ H0 s0) (hf:s0.heap.objs.size<=f) (I:Inv X pins σ H s) (n:H f=none) (ho:ObjOk X.prog X.w (upd H f o) s.heap f o):Inv X pins σ (upd H f o) s:=by
 have n0:=xp I0.sz hf
 have old:∀b ob,X.s₀.heap.get? b=some ob->b≠f:=fun b ob e=>xt (xv (xj e) n0)
 have kp:∀b ob,H b=some ob->upd H f o b=some ob:=fun b ob e=>by rw[zA2 (zA4 e n)];exact e
 obtain⟨_,nl,_,_,nc,np⟩:=I0.fpOk (H':=H) hf n
 refine⟨I.ok,I.os,I.bare,⟨I.base.keep,I.base.slot,fun b ob e m hx=>?_,I.base.there,fun b xs e=>kp _ _ (I.base.tups b xs e),fun b ob u e=>kp _ _ (I.base.frzs b ob u e),fun b ps e=>?_⟩,I.loc,I.cell,?_,fun x c e=>?_,fun p hp=>?_,fun b ob e=>?_,I.len⟩
 ·rw[zA2 (old b ob e)];exact I.base.free b ob e m hx
 ·obtain⟨m,q⟩:=I.base.tbls b ps e
  exact⟨m,kp _ _ q⟩
 ·rw[zA2 nl.symm];exact I.free
 ·rw[zA2 (nc x c e)];exact I.freeC x c e
 ·obtain⟨e,m,r⟩:=I.pin p hp
  exact⟨e,by rw[zA2 (np p hp)];exact m,r⟩
 ·by_cases z:b=f
  ·subst z;rw[zA5]at e;cases e;exact ho
  ·rw[zA2 z]at e
   exact(I.hok b ob e).stay (fun _ _ _ q=>q) (fun _ q=>kp _ _ q) fun _ _ q=>kp _ _ q
section
variable {A:Around}{E:Value->Shared->Prop}{a C:Addr}{f:Str}{fr:Bool}
theorem zRv {y:V}{u:Value}{Q:Unit->Shared->Prop}(I:Inv X pins σ H s) (e:H a=some (.ext (XO a C none fr))) (c:ClsE X.K C) (n:NoAttr X.K C f) (ry:RelV y u)
  (h:∀s' dx,H dx=none->dx≠a->Inv X pins σ (upd (upd H a (.ext (XO a C (some dx) fr))) dx (.xd [(f,y)])) s'->Q () s'):wpAny (model X.prog X.w) A (setAttr (.ref a) f u) Q E s:=by
 obtain⟨⟨vs,sl,he,hz⟩,_⟩:=I.hok a _ e
 have hne:s.heap.objs.size≠a:=vz (xj he)
 have fsh:H s.heap.objs.size=none:=I.hok.fresh (xh _)
 refine zRx I.kIn he rfl rfl rfl c n.taker fun h' e' n' k'=>h _ s.heap.objs.size fsh hne ?_
 have I1:Inv X pins σ (upd H a (.ext (XO a C (some s.heap.objs.size) fr))) { s with heap:=h',toks:=s.toks+2 }:=I.write (x:=a) (e:=a) (by rw[e];exact True.intro) (.inl rfl) (fun b o hb z=>k' b o hb z) ⟨_,e'⟩ (XO.ok ⟨vs,sl,e',hz⟩)
 refine Inv.more I (xh _) I1 (by rw[zA2 hne];exact fsh) ⟨_,n',fun g=>?_⟩
 show RelO (List.lookup g [(f,y)]) (if g=f then some u else none)
 by_cases z:g=f
 ·have hb:(g == f)=true:=xQ.mpr z
  simp only[List.lookup,hb,xc z]
  exact ry
 ·have hb:(g == f)=false:=beq_eq_false_iff_ne.mpr z
  simp only[List.lookup,hb,xf z]
  exact True.intro
theorem zTw {b:Bool}{dx:Addr}{fs:List (Str × V)}{v:V}{Q:Value->Shared->Prop}(I:Inv X pins σ H s) (e:H a=some (.ext (XO a C (some dx) fr))) (ed:H dx=some (.xd fs)) (c:ClsE X.K C) (n:NoAttr X.K C f) (l:fs.lookup f=some v)
  (h:∀u s',Inv X pins σ H s'->RelV v u->Q u s'):wpAny (model X.prog X.w) A (getAttr (.ref a) f b) Q E s:=by
 obtain⟨⟨vs,sl,he,hz⟩,_⟩:=I.hok a _ e
 obtain⟨mA,hn,r⟩:=I.hok dx _ ed
 obtain⟨od,ho,hl⟩:=zFj hn
 obtain⟨u,hu,ru⟩:=RelO.some_of (v:=v) (o:=mA f) (by rw[<- l];exact r f)
 have J:PySem.W.InstAt s.heap a ⟨.ref C,some dx,.fields vs,sl⟩ C (some od):=⟨he,rfl,rfl,ho⟩
 exact zJe I.kIn J c (PySem.W.findObj_own c.hd n rfl (by rw[hl,hu])) (zM4 ru) (h u _ (I.tok _) ru)
end
end
end L2
namespace L2
open PySem PySem.Spec PyProof.Rows
noncomputable def zFp (K:PySem.W.Frag) (C fI:Addr) (bmB:List Value) (newId:String):Bool:=(match K.lookup C with
 | some ⟨.type "type",_,.cls cd,sl⟩=>(match cd.mro,sl.toList with
  | .ref C'::bm,[_,_,_,_,some (.builtin n),_]=>C' == C && n == newId && !cd.hasDel && PySem.W.tailIn K bmB bm && PySem.W.nsOkIn K cd.ns && PySem.W.nsIn K cd.ns "__init__" == some (some (.ref fI))
  | _,_=>false)
 | _=>false) && PySem.W.typeIn K (.ref fI) == some (.type "function")
theorem yAj {K:PySem.W.Frag}{h:Heap}{N:Addr}{mN:Str->Option Value}{n:Str}{v:Value}(X:K.In h) (G:h.Ns N mN) (e:PySem.W.nsIn K N n=some (some v)):mN n=some v:=by
 obtain⟨ob,es,ep,at_,dt,-,fd⟩:=G
 unfold PySem.W.nsIn at e;split at e
 ·rename_i lk
  have z:=X _ _ lk;rw[at_]at z;cases z;cases dt
  split at e
  ·rename_i fnd
   cases e;rw[<- fd,nsFind,findBy,<- Array.find?_toList,fnd];rfl
  ·split at e <;> cases e
 ·cases e
theorem zPg {K:PySem.W.Frag}{h:Heap}{C fI:Addr}{bmB:List Value}{newId:String}(X:K.In h) (q:zFp K C fI bmB newId=true):
  ∃bm N nm qn bs hd sn sub ab col dd k0 k1 k2 k3 k5,h.get? C=some (excClassObj nm qn C N bs bm hd sn sub ab col dd k0 k1 k2 k3 k5 newId)/\h.Ns N (h.nsMap N)/\h.nsMap N "__init__"=some (.ref fI)/\OwnTail h bmB bm:=by
 unfold zFp at q
 rw[xm]at q
 replace q:=q.1
 split at q
 ·rename_i dd cd sl ho
  split at q
  ·rename_i C' bm k0 k1 k2 k3 n k5 hm hs
   simp only[xm,xQ,vM]at q
   obtain⟨⟨⟨⟨⟨rfl,rfl⟩,hdel⟩,ht⟩,hok⟩,hni⟩:=q
   obtain⟨nm,bs,mro,ns,qn,hd,sn,sub,ab,col,del⟩:=cd
   dsimp only at hm hdel hok hni
   subst hm hdel
   have hsl:sl=#[k0,k1,k2,k3,some (.builtin n),k5]:=by
    obtain⟨l⟩:=sl
    simp only at hs
    rw[hs]
   subst hsl
   have hn:h.Ns ns (h.nsMap ns):=.of_isNs (PySem.W.isNs_of_in X hok)
   exact⟨bm,ns,nm,qn,bs,hd,sn,sub,ab,col,dd,k0,k1,k2,k3,k5,X _ _ ho,hn,yAj X hn hni,PySem.W.tail_of_in X ht⟩
  ·cases q
 ·cases q
noncomputable def zFq (K:PySem.W.Frag) (C:Addr):Bool:=match K.lookup C with
 | some ⟨.type "type",_,.cls cd,sl⟩=>(match cd.mro,sl.toList with
  | .ref C'::bm,[_,_,_,_,some (.builtin _),_]=>C' == C && !cd.hasDel && bm.contains (.type "BaseException")
  | _,_=>false)
 | _=>false
theorem zMd {K:PySem.W.Frag}{h:Heap}{C:Addr}(X:K.In h) (q:zFq K C=true):
  ∃bm N nm qn bs hd sn sub ab col dd k0 k1 k2 k3 k5 newId,h.get? C=some (excClassObj nm qn C N bs bm hd sn sub ab col dd k0 k1 k2 k3 k5 newId)/\bm.contains (.type "BaseException")=true:=by
 unfold zFq at q
 split at q
 ·rename_i dd cd sl ho
  split at q
  ·rename_i C' bm k0 k1 k2 k3 n k5 hm hs
   simp only[xm,xQ,vM]at q
   obtain⟨⟨rfl,hdel⟩,hB⟩:=q
   obtain⟨nm,bs,mro,ns,qn,hd,sn,sub,ab,col,del⟩:=cd
   dsimp only at hm hdel
   subst hm hdel
   obtain⟨l⟩:=sl
   simp only at hs
   subst hs
   exact⟨bm,ns,nm,qn,bs,hd,sn,sub,ab,col,dd,k0,k1,k2,k3,k5,n,X _ _ ho,hB⟩
  ·cases q
 ·cases q
section
variable {X:Cx}{CX:CXT}{k:Nat}{f C:Addr}{fd:FuncData}{ps:List Str}{sp:Sp}{E:XK}{x:Str}{p pos:Pos}{e:Expr}{es:List Expr}{t:TA}{B newId initId:String}{bmB:List Value}
theorem zS0 {pins:List (Addr × Obj)}{σ:St}{H:Hp}{s:Shared}{Q:VK}{us:List Value}{vs:List V}(FB:ExcBaseFacts B newId initId bmB) (M:zFp X.K C f bmB newId=true) (F:FnOk X.prog X.w X.K X.mg X.base CX k f fd ps sp) (hr:Room (k+1) X.A) (hb:Binds X.K fd ps [])
  (hx:Passes CX X E) (I:Inv X pins σ H s) (r:Vals vs us) (hz:us.length<=1000)
  (h:∀a,H a=none->sp (.ref a::vs) (upd H a (.ext (XO a C none true))) (fun v H2=>v=.non/\Q (.ref a) H2) E):
  wpAny (model X.prog X.w) X.A (call (.ref C) us) (EP X pins σ Q) X.xe s:=by
 have hq:=h (s.heap.objs.size+1) (I.hok.fresh (Nat.le_succ _))
 have ft:PySem.W.typeIn X.K (.ref f)=some (.type "function"):=by
  unfold zFp at M
  rw[xm]at M
  exact xQ.mp M.2
 obtain⟨bm,N,nm,qn,bs,hd,sn,sub,ab,col,dd,k0,k1,k2,k3,k5,hC,hn,hi,T⟩:=zPg I.kIn M
 obtain⟨oI,hoI,hcI⟩:∃oI,s.heap.get? f=some oI/\oI.cls=.type "function":=by
  have ft:(X.K.lookup f).map (·.cls)=some (.type "function"):=ft
  cases e:X.K.lookup f with
  | none=>rw[e]at ft;cases ft
  | some o=>rw[e]at ft;exact⟨o,I.kIn _ _ e,by simpa using ft⟩
 have r2:Vals (V.ref (s.heap.objs.size+1)::vs) (Value.ref (s.heap.objs.size+1)::us):=.cons rfl r
 have hl:(Value.ref (s.heap.objs.size+1)::us++[]).length=ps.length:=by
  rw[vh,<- r2.length]
  exact F.len _ _ _ _ hq
 refine zJr FB T hC hn hi hoI hcI (fun h' m=>?_) (xp hz (by decide))
 obtain⟨tt,ht,_,_⟩:=m.there
 have I2:Inv X pins σ (upd H (s.heap.objs.size+1) (.ext (XO (s.heap.objs.size+1) C none true))) { s with heap:=h' }:=I.laid (t':=s.toks) m.keeps (Nat.le_succ _) (XO.ok ⟨_,_,ht,(show 1<6 by decide),fun _=>rfl⟩)
 refine wpAny_call (vR (F.run _ X.stack _ _ ⟨Value.ref (s.heap.objs.size+1)::us,[]⟩ (Value.ref (s.heap.objs.size+1)::us) _ _ E (hr.make C us []) (I2.env0.make C us []) (by have:=hb { s with heap:=h' } (Value.ref (s.heap.objs.size+1)::us) I2.kIn hl;rwa[vh]at this) r2 hq) fun r s' hq'=>?_)
 cases r with
 | error e=>exact hx pins σ _ _ e s' I2 hq'
 | ok fl=>
  cases fl with
  | ret u=>
   obtain⟨v,H',I3,rv,ev,q3⟩:=I2.after hq'
   subst ev
   exact⟨rv,V.ref (s.heap.objs.size+1),H',I3,rfl,q3⟩
  | next=>exact False.elim hq'
  | brk=>exact False.elim hq'
  | cont=>exact False.elim hq'
end
end L2
namespace L2
open PySem PySem.Spec PyProof.Rows
section
variable {X:Cx}{e o value:Expr}{f:Str}{pos pos':Pos}{te ta tv:TE}{a C:Addr}
noncomputable def sXF (K:PySem.W.Frag) (ta tv:TE) (f:Str):TS:=fun D σ H=>tv σ H fun y H1=>ta σ H1 fun x H2=>∃a C fr,x=.ref a/\H2 a=some (.ext (XO a C none fr))/\ClsE K C/\NoAttr K C f /\
 ∀dx,H2 dx=none->dx≠a->D.nx σ (upd (upd H2 a (.ext (XO a C (some dx) fr))) dx (.xd [(f,y)]))
theorem yA3 (ha:PE X o ta) (hv:PE X value tv) (hs:swapsWith value (some (.Attribute o f pos')) pos.line X.env=pure false):PS X (.Assign [.Attribute o f pos'] value pos) (sXF X.K ta tv f):=by
 intro pins s σ H D I h
 refine plainObj_wpAny_Assign_Attribute (thn (hv pins s σ H _ I h) fun u s1 ⟨y,H1,I1,ry,q⟩=>thn (ha pins s1 σ H1 _ I1 q) fun ov s2 hq1=>?_) hs
 obtain⟨x,H2,I2,rx,a,C,fr,ex,ea,c,n,q2⟩:=hq1
 subst ex
 obtain rfl:ov=Value.ref a:=rx
 exact zRv I2 ea c n ry fun s3 dx h1 h2 I3=>⟨σ,_,I3,q2 dx h1 h2⟩
noncomputable def tXF (K:PySem.W.Frag) (ta:TE) (f:Str):TE:=fun σ H Q=>ta σ H fun x H1=>∃a C dx fr fs v,x=.ref a/\H1 a=some (.ext (XO a C (some dx) fr))/\H1 dx=some (.xd fs)/\ClsE K C/\NoAttr K C f/\fs.lookup f=some v/\Q v H1
theorem yA7 (he:PE X e ta) (hb:attributeBase e f X.env (eval e X.env)=eval e X.env):PE X (.Attribute e f pos) (tXF X.K ta f):=by
 intro pins s σ H Q I h
 refine zV3 hb (thn (he pins s σ H _ I h) fun u s1 hq1=>?_)
 obtain⟨x,H1,I1,rx,a,C,dx,fr,fs,v,ex,ea,ed,c,n,l,q⟩:=hq1
 subst ex
 obtain rfl:u=Value.ref a:=rx
 exact zTw I1 ea ed c n l fun u' s2 I2 ru=>⟨v,H1,I2,ru,q⟩
noncomputable def sRs (K:PySem.W.Frag) (te:TE) (Z:Addr->Hp->Prop):TS:=fun _ σ H=>te σ H fun x H1=>∃a C dx,x=.ref a/\H1 a=some (.ext (XO a C dx true))/\zFq K C=true/\Z a H1
theorem yA4 {Z:Addr->Hp->Prop}(he:PE X e te) (hc:X.calm=true) (hZ:∀pins σ H s a,Inv X pins σ H s->Z a H->X.xe (.ref a) s):PS X (.Raise (some e) none pos) (sRs X.K te Z):=by
 intro pins s σ H D I h
 rw[arm_exec_Raise]
 refine xa (ua ?_)
 simp only[evalOpt,Option.map]
 unfold raiseStmt
 dsimp only
 refine xa (xa (thn (he pins s σ H _ I h) fun u s1 ⟨x,H1,I1,rx,a,C,dx,ex,ea,hsub,z⟩=>xa (ua (xg ?_))))
 subst ex
 obtain rfl:u=Value.ref a:=rx
 obtain⟨⟨vs,sl,ha,hz,hf⟩,_⟩:=I1.hok a _ ea
 have hf:=hf rfl
 obtain⟨bm,N,nm,qn,bs,hd,sn,sub,ab,col,dd,k0,k1,k2,k3,k5,newId,hC,hB⟩:=zMd I1.kIn hsub
 have hcB:(Value.ref C::bm).contains (.type "BaseException")=true:=by rw[List.contains_cons,hB,Bool.or_true]
 have fin:=hZ pins σ H1 s1 a I1 z
 obtain⟨hp,g,d,tk,os⟩:=s1
 repeat (first|with_reducible refine uV ha ?_|with_reducible refine uV hC ?_|(with_reducible refine wpAny_isSubtype_exc hC ?_;rw[hcB])|wp_step)
 rw[hf]
 refine xg ?_
 rw[xf (by decide)]
 exact xg (wpAny_raiseNew_none (I.ok.hd hc) fin)
end
end L2
namespace L2
open PySem PySem.Spec PyProof.Rows
section
variable {X:Cx}{pins:List (Addr × Obj)}{σ:St}{H:Hp}{s:Shared}{a C:Addr}{dx old:Option Addr}{fr:Bool}{h':Heap}
noncomputable def Own (X:Cx):Prop:=X.stack=X.env::X.outer/\X.env.frame=some X.env.locals
theorem Own.frs {X:Cx}(o:Own X):L2.frs X.stack=X.env.locals::X.fs:=by
 rw[o.1]
 show List.filterMap (·.frame) (X.env::X.outer)=_
 rw[vP,o.2]
 rfl
noncomputable def zZp (X:Cx) (pins:List (Addr × Obj)) (H:Hp) (old:Option Addr):Prop:=∀T,old=some T->FpOk X pins H T
theorem Inv.noted (I:Inv X pins σ H s) (ow:Own X) (ea:H a=some (.ext (XO a C dx fr))) (N:Noted (frs X.stack) a old s.heap h') (ho:zZp X pins H old):Inv X pins σ (upd H a (.ext (XO a C dx false))) { s with heap:=h' }:=by
 have na:∀b,H b=none->b≠a:=fun b n z=>by rw[z,ea]at n;cases n
 have frn:=I.stkFree
 have keepT:∀c o u,H c=some o->c≠a->s.heap.get? c=some u->h'.get? c=some u:=fun c o u hc hca e=>N.keep c u (fun z=>by rw[frn c z]at hc;cases hc) hca (fun z=>by rw[(ho c z).1]at hc;cases hc) e
 have up:∀b o,H b=some o->b≠a->upd H a (.ext (XO a C dx false)) b=some o:=fun b o e n=>by rw[zA2 n];exact e
 have nk:∀b o,H b=some o->(∀φ,o≠.ext φ)->b≠a:=fun b o e n z=>by subst z;rw[ea]at e;cases e;exact n _ rfl
 refine I.step (g':=s.gens) (d':=s.drawn) (t':=s.toks) (ch:=old.toList) (fun b hb=>?_) (fun b o h1 h2 h3 e n=>?_) (fun b o h1 h2 h3 e n=>?_) (fun b o h3 e n=>?_) (fun b o h3 e=>?_) (fun b xs e=>?_) (fun b o u e=>?_) (fun b ps e=>?_) (fun m hn=>?_) (fun b o e=>?_) I.bare
 ·obtain⟨_,f1,_,f3,f4,f5⟩:=ho b (by simpa using hb)
  exact⟨f3,f1,f4,f5⟩
 ·exact N.keep b o (by rw[ow.frs];simp only[xk,not_or];exact⟨h1,h2⟩) (na b n) (by simpa using h3) e
 ·exact N.slot b o (by rw[ow.frs];exact .tail _ h2) e
 ·rw[zA2 (na b n)];exact n
 ·by_cases z:b=a
  ·subst z
   obtain⟨⟨vs,sl,hx,_⟩,_⟩:=I.hok b _ ea
   exact⟨_,N.exc _ vs hx rfl⟩
  ·by_cases q:b∈frs X.stack
   ·obtain⟨sl,e'⟩:=N.slot b o q e
    exact⟨_,e'⟩
   ·exact⟨o,N.keep b o q z (by simpa using h3) e⟩
 ·exact up _ _ e (nk _ _ e (by intro φ z;cases z))
 ·exact up _ _ e (nk _ _ e (by intro φ z;cases z))
 ·exact⟨#[],by rw[up _ _ e (nk _ _ e (by intro φ z;cases z))];simp⟩
 ·obtain⟨o,es,ep,e1,e2,r⟩:=hn
  obtain⟨sl,e'⟩:=N.slot X.env.locals o (by rw[ow.frs];exact .head _) e1
  exact⟨_,es,ep,e',e2,r⟩
 ·by_cases z:b=a
  ·subst z
   rw[zA5]at e;cases e
   obtain⟨⟨vs,sl,hx,hz,_⟩,_⟩:=I.hok b _ ea
   exact XO.ok ⟨_,sl,N.exc _ vs hx rfl,by simpa using hz,fun q=>by cases q⟩
  ·rw[zA2 z]at e
   refine(I.hok b o e).stay (fun c u hc q=>?_) (fun c q=>?_) fun c xs q=>up _ _ q (nk _ _ q (by intro φ z;cases z))
   ·rcases hc with rfl|hc
    ·exact keepT _ _ u e z q
    ·exact keepT _ _ u hc (nk _ _ hc (by intro φ z;cases z)) q
   ·exact up _ _ q (nk _ _ q (by intro φ z;cases z))
end
end L2
namespace L2
open PySem PySem.Spec PyProof.Rows
noncomputable def FlyI (X:Cx) (pins:List (Addr × Obj)) (σ:St) (H:Hp) (s:Shared) (a:Addr):Prop:=Inv X pins σ H s/\∃C dx fr vs sl old,H a=some (.ext (XO a C dx fr))/\s.heap.get? a=some ⟨.ref C,dx,.fields vs,sl⟩/\Tbk s.heap a vs old/\zZp X pins H old
noncomputable def CXE (P:Program) (w:World):CXT:=fun outer H s E e s'=>∃a H' C dx vs sl T,e=.ref a/\s'.os=s.os/\AllBare s'.gens/\Un (frs outer) [] H H' s.heap s'.heap/\HOk P w H' s'.heap /\
 H' a=some (.ext (XO a C dx false))/\s'.heap.get? a=some ⟨.ref C,dx,.fields vs,sl⟩/\Tbk s'.heap a vs (some T)/\H' T=none/\s.heap.objs.size<=T/\E e none H'
noncomputable def Flown (H:Hp) (a:Addr):Prop:=∀C dx fr,H a=some (.ext (XO a C dx fr))->H a=some (.ext (XO a C dx false))
section
variable {X:Cx}{pins:List (Addr × Obj)}{σ:St}{H:Hp}{s s':Shared}{a:Addr}{e:Value}{E:XK}
theorem Inv.came (I:Inv X pins σ H s) (h:CXE X.prog X.w X.stack H s E e s'):∃a H',e=.ref a/\FlyI X pins σ H' s' a/\Flown H' a/\E e none H':=by
 obtain⟨a,H',C,dx,vs,sl,T,rfl,h1,h2,h3,h4,h5,h6,h7,h8,h9,h10⟩:=h
 have J:∃v H2,Inv X pins σ H2 s'/\RelV v Value.none/\H2=H':=I.after (Q:=fun _ H2=>H2=H') (u:=.none) ⟨.non,H',h1,h2,h3,h4,rfl,rfl⟩
 obtain⟨_,H2,J,_,rfl⟩:=J
 refine⟨a,H2,rfl,⟨J,C,dx,false,vs,sl,some T,h5,h6,h7,fun T' e=>by cases e;exact I.fpOk h9 h8⟩,fun C' dx' fr' z=>?_,h10⟩
 obtain⟨⟨vs',sl',he',_⟩,_⟩:=h4 a _ z
 rw[h6]at he'
 cases he'
 exact h5
end
section
variable {P:Program}{w:World}{K:PySem.W.Frag}{mg:Str->Option Value}{base:Heap}{N:List Str}{qual:Str}{scope:Scope}{f a:Addr}{cd:Value}{A:Around}{outer:List Env}{s s1:Shared}{H H1:Hp}{E:XK}{pins:List (Addr × Obj)}{σ:St}
theorem zX5:Own (cxOf (CXE P w) P w K mg base N qual scope f cd A outer s H E):=⟨rfl,rfl⟩
theorem zTz (h:FlyI (cxOf (CXE P w) P w K mg base N qual scope f cd A outer s H E) pins σ H1 s1 a) (hE:∀C dx fr,H1 a=some (.ext (XO a C dx fr))->E (.ref a) none (upd H1 a (.ext (XO a C dx false)))):
  (cxOf (CXE P w) P w K mg base N qual scope f cd A outer s H E).xe (.ref a) s1:=by
 obtain⟨I,C,dx,fr,vs,sl,old,ea,he,tb,oo⟩:=h
 have hne:s1.heap.objs.size≠a:=vz (xj he)
 refine zLo (base:=base) (old:=old) I.ok.frames I.stack rfl he rfl tb fun h' Nn=>?_
 have J:=I.noted zX5 ea Nn oo
 have ex:=Nn.exc _ vs he rfl
 obtain⟨oT,ts,hT,hdT,h3⟩:=Nn.tb
 obtain⟨⟨_,_,_,hz,_⟩,_⟩:=I.hok a _ ea
 have hz:1<vs.size:=by
  obtain⟨⟨vs2,sl2,he2,hz2,_⟩,_⟩:=I.hok a _ ea
  rw[he]at he2;cases he2;exact hz2
 exact⟨a,_,C,dx,_,sl,s1.heap.objs.size,rfl,J.os,J.bare,J.base,J.hok,zA5,ex,⟨by simp[hz],hne,oT,ts,hT,hdT,h3⟩,by rw[zA2 hne];exact I.hok.fresh (xh _),I.sz,hE C dx fr ea⟩
end
section
variable {X:Cx}{pins:List (Addr × Obj)}{σ:St}{H:Hp}{s:Shared}{a C:Addr}{dx:Option Addr}
theorem FlyI.new (I:Inv X pins σ H s) (ea:H a=some (.ext (XO a C dx true))):FlyI X pins σ H s a:=by
 obtain⟨⟨vs,sl,he,hz,hf⟩,_⟩:=I.hok a _ ea
 exact⟨I,C,dx,true,vs,sl,none,ea,he,hf rfl,fun T e=>by cases e⟩
end
end L2
namespace L2
open PySem PySem.Spec PyProof.Rows
section
variable {X:Cx}{pins:List (Addr × Obj)}{σ:St}{H:Hp}{s:Shared}{h':Heap}{j:Nat}{n:Str}
theorem Inv.unset {t':Nat}{m:Str->Option Value}{v:Option Value}(I:Inv X pins σ H s) (hN:X.N.Nodup) (hj:X.N[j]?=some n) (hm:s.heap.Ns X.env.locals m) (hv:h'.Ns X.env.locals (fun x=>if x=n then v else m x)) (sb:Heap.SameBut X.env.locals s.heap h'):Inv X pins (σ.set j none) H { s with heap:=h',toks:=t' }:=by
 have kp:∀b o,b≠X.env.locals->s.heap.get? b=some o->h'.get? b=some o:=fun b o hb e=>(sb.2 b hb).trans e
 have th:∀b o,s.heap.get? b=some o->∃o',h'.get? b=some o':=fun b o e=>by
  by_cases z:b=X.env.locals
  ·subst z
   obtain⟨o',_,_,e',_⟩:=hv
   exact⟨o',e'⟩
  ·exact⟨o,kp b o z e⟩
 have neL:∀b o,X.s₀.heap.get? b=some o->b≠X.env.locals:=fun b o e=>xt (xv (xj e) I.ok.above)
 obtain⟨m0,hm0,lk⟩:=I.loc
 have em:m0=m:=by
  obtain⟨o1,es1,ep1,a1,b1,_,c1⟩:=hm0
  obtain⟨o2,es2,ep2,a2,b2,_,c2⟩:=hm
  rw[a1]at a2;cases a2;rw[b1]at b2;cases b2
  exact funext fun x=>(c1 x).symm.trans (c2 x)
 subst em
 refine⟨I.ok,I.os,I.bare,⟨fun b o e q hb hx=>kp b o (neL b o e) (I.base.keep b o e q hb hx),fun b o e q hb hx=>?_,I.base.free,fun b o e hx=>?_,I.base.tups,I.base.frzs,I.base.tbls⟩,⟨_,hv,fun i x u e1 e2 e3=>?_⟩,fun x c e=>?_,I.free,I.freeC,fun p hp=>?_,fun b o e=>?_,by rw[List.length_set];exact I.len⟩
 ·obtain⟨sl,e'⟩:=I.base.slot b o e q hb hx
  exact⟨sl,kp b _ (neL b o e) e'⟩
 ·obtain⟨o',e'⟩:=I.base.there b o e hx
  exact th b o' e'
 ·have hij:i≠j:=fun z=>by
   subst z
   by_cases hl:i<σ.length
   ·rw[xY hl]at e2;cases e2
   ·rw[vC (by rw[List.length_set];lia)]at e2;cases e2
  rw[xF (xr hij)]at e2
  have hxn:x≠n:=fun z=>by
   subst z
   exact hij ((List.getElem?_inj (xI.mp e1).1 hN).mp (e1.trans hj.symm))
  obtain⟨w,r,l⟩:=lk i x u e1 e2 e3
  refine⟨w,r,?_⟩
  rcases l with⟨k,q⟩|⟨k,c,e,o,ho,hd⟩
  ·exact .inl ⟨k,by show(if x=n then v else m0 x)=some w;rw[xf hxn];exact q⟩
  ·exact .inr ⟨k,c,e,o,kp c o (I.cne x c e) ho,hd⟩
 ·obtain⟨v,o,ho,hd⟩:=I.cell x c e
  exact⟨v,o,kp c o (I.cne x c e) ho,hd⟩
 ·obtain⟨e,q,ne,r⟩:=I.pin p hp
  exact⟨kp _ _ ne e,q,ne,r⟩
 ·have tk:∀c u,H c=some u->c≠X.env.locals:=fun c u q z=>by rw[z,I.free]at q;cases q
  refine(I.hok b o e).stay (fun c u hc q=>kp c u ?_ q) (fun _ q=>q) fun _ _ q=>q
  rcases hc with rfl|hc
  ·exact tk _ _ e
  ·exact tk _ _ hc
noncomputable def Cx.handl (X:Cx) (v:Value) (E:Value->Shared->Prop):Cx:={ X with A:=X.A.mark (some v),calm:=false,xe:=E }
theorem Inv.handl {v:Value}{E:Value->Shared->Prop}(I:Inv X pins σ H s):Inv (X.handl v E) pins σ H s:=
 ⟨⟨I.ok.mod,I.ok.kind,I.ok.glob,I.ok.blt,I.ok.above,I.ok.inj,I.ok.has,I.ok.cab,fun z=>(by cases z),I.ok.frames,I.ok.stk,I.ok.exf,I.ok.bs,I.ok.bsz,I.ok.noex,I.ok.exfs,I.ok.funs,I.ok.frf,I.ok.gds⟩,I.os,I.bare,I.base,I.loc,I.cell,I.free,I.freeC,I.pin,I.hok,I.len⟩
theorem Inv.unhandl {v:Value}{E:Value->Shared->Prop}(ok:X.Ok) (I:Inv (X.handl v E) pins σ H s):Inv X pins σ H s:=⟨ok,I.os,I.bare,I.base,I.loc,I.cell,I.free,I.freeC,I.pin,I.hok,I.len⟩
end
end L2
namespace L2
open PySem PySem.Spec PyProof.Rows
noncomputable abbrev XPost (X:Cx) (pins:List (Addr × Obj)) (σ:St) (R:Addr->Hp->Prop):Value->Shared->Prop:=fun v s'=>∃a H',v=.ref a/\FlyI X pins σ H' s' a/\R a H'
noncomputable abbrev TX:=St->Hp->VK->(Addr->Hp->Prop)->Prop
noncomputable def PEx (X:Cx) (e:Expr) (t:TX):Prop:=∀(pins:List (Addr × Obj)) (s:Shared) (σ:St) (H:Hp) (Q:VK) (R:Addr->Hp->Prop),Inv X pins σ H s->t σ H Q R->wpAny (model X.prog X.w) X.A (eval e X.env) (EP X pins σ Q) (XPost X pins σ R) s
theorem zVj {M:Model}{h:Heap}{a:Addr}{o:Obj}(he:h.get? a=some o):PySem.W.Looks M h (typeOf (.ref a)) o.cls:=fun A Q E s k q=>xa (wpAny_loadPart (k _ _ he) (xg q))
theorem zMa {M:Model}{A:Around}{E:Value->Shared->Prop}{s:Shared}{a T:Addr}{oe oT:Obj}{vs ts:Array Value}{Q:Unit->Shared->Prop}(he:s.heap.get? a=some oe) (hd:oe.data=.fields vs) (h1:vs[1]?=some (.ref T)) (hT:s.heap.get? T=some oT) (hdT:oT.data=.fields ts) (h3:ts[3]?=some .none)
  (h:∀h',Heap.SameBut T s.heap h'->Q () { s with heap:=h' }):wpAny M A (setFlight (.ref a) none) Q E s:=by
 unfold setFlight
 refine xa (xM he hd h1 ?_)
 rw[xc (show(Value.ref T != Value.none)=true from by simp)]
 exact vK hT hdT (x4.mp h3).1 (h _ (.update ..))
section
variable {X:Cx}{e:Expr}{es:List Expr}{te:TE}{t:TA}{x:Str}{p pos:Pos}{k:Nat}{f:Addr}{fd:FuncData}{ps:List Str}{sp:Sp}
theorem zRz {pins:List (Addr × Obj)}{σ:St}{H:Hp}{s:Shared}{Q:VK}{R:Addr->Hp->Prop}{us:List Value}{vs:List V}(F:FnOk X.prog X.w X.K X.mg X.base (CXE X.prog X.w) k f fd ps sp) (hr:Room k X.A) (hb:Binds X.K fd ps [])
  (I:Inv X pins σ H s) (r:Vals vs us) (h:sp vs H Q (fun v _ H2=>∃a,v=.ref a/\(Flown H2 a->R a H2))):wpAny (model X.prog X.w) X.A (call (.ref f) us) (EP X pins σ Q) (XPost X pins σ R) s:=by
 have hl:(us++[]).length=ps.length:=by rw[vh,<- r.length];exact F.len _ _ _ _ h
 refine wpAny_call (vR (F.run X.A X.stack s H ⟨us,[]⟩ us vs Q _ hr I.env0 (by have:=hb s us I.kIn hl;rwa[vh]at this) r h) fun r s' hq=>?_)
 cases r with
 | error e=>
  have hq:CXE X.prog X.w X.stack H s (fun v _ H2=>∃a,v=.ref a/\(Flown H2 a->R a H2)) e s':=hq
  obtain⟨a,H',rfl,fl,fw,a',ea,q⟩:=I.came hq
  cases ea
  exact⟨a,H',rfl,fl,q fw⟩
 | ok fl=>
  cases fl with
  | ret u=>exact I.after hq
  | next=>exact False.elim hq
  | brk=>exact False.elim hq
  | cont=>exact False.elim hq
theorem zS6 (F:FnOk X.prog X.w X.K X.mg X.base (CXE X.prog X.w) k f fd ps sp) (hr:Room k X.A) (hg:Gl X x) (hm:X.mg x=some (.ref f)) (hk:PySem.W.keepIn X.K (.ref f)=true) (hb:Binds X.K fd ps []) (ha:∀Z,PA (X.wish Z) (e::es) t)
  (hdb:(x == ("__debug__":Str))=false:=by decide) (he:starEach (e::es) X.env=(false,eval e X.env)::starEach es X.env:=by rfl) (hpl:(backTo pos (starEach es X.env)).any (·.1)=false:=by rfl):
  PEx X (.Call (.Name x p) (e::es) [] pos) (fun σ H Q R=>t σ H fun vs H1=>sp vs H1 Q (fun v _ H2=>∃a,v=.ref a/\(Flown H2 a->R a H2))):=by
 intro pins s σ H Q R I h
 refine vE (zD3 I hg hm ?_ hdb)
 refine PySem.W.callWith_K (h₀:=X.base) I.ok.mod.kin hk (thn (ha (XPost X pins σ R) pos pins s σ H _ (I.wish _) h) fun us s1 ⟨vs,H1,I1,r,q⟩=>⟨I1.unwish.kIn,?_⟩) he hpl
 exact zRz F hr hb I1.unwish r q
theorem zW7 {c:Expr}{tc:TE}{tx:TX}{x1} (hc:∀Z,PE (X.wish Z) c tc) (he:PEx X e tx) (h1:starEach [c,e] X.env=[(false,eval c X.env),(false,eval e X.env)]:=by rfl):
  PEx X (.Tuple [c,e] x1 pos) (fun σ H Q R=>tc σ H fun x H1=>tx σ H1 (fun y H2=>∀p,H2 p=none->Q (.ref p) (upd H2 p (.tup [x,y]))) R):=by
 intro pins s σ H Q R I hq
 refine wpAny_Tuple_spliced ?_
 rw[h1]
 show wpAny _ _ (spliced [(false,eval c X.env),(false,eval e X.env)]) _ _ s
 refine uc (thn (hc (XPost X pins σ R) pins s σ H _ (I.wish _) hq) fun u s1 hq1=>?_)
 obtain⟨x,H1,I1,r1,q1⟩:=hq1
 refine uc (thn (he pins s1 σ H1 _ R I1.unwish q1) fun u2 s2 hq1=>?_)
 obtain⟨y,H2,I2,r2,q2⟩:=hq1
 refine uw ⟨by show 2<=sizeLine;decide,?_⟩
 have hf:H2 s2.heap.objs.size=none:=I2.hok.fresh (xh _)
 refine⟨.ref s2.heap.objs.size,upd H2 s2.heap.objs.size (.tup [x,y]),I2.laid (t':=s2.toks) (fun b u e=>xi _ e) (xh _) ?_,rfl,q2 _ hf⟩
 exact⟨by show 2<=sizeLine;decide,[u,u2],.cons r1 (.cons r2 .nil),⟨_,xw _ rfl,rfl,_,rfl⟩⟩
noncomputable def tTry (K:PySem.W.Frag) (Cc:Addr) (i j:Nat) (tx:TX) (ts:TS):TS:=fun D σ H=>tx σ H (fun v H1=>D.nx (σ.set i (some v)) H1) fun a H1=>∃C dx fr,H1 a=some (.ext (XO a C dx fr))/\PySem.W.exmOne K (.ref C) (.ref Cc)=some true /\
 ts { nx:=fun σ' H'=>D.nx (σ'.set j none) H',rt:=fun _ _=>False } (σ.set j (some (.ref a))) (upd H1 a (.ext (XO a C dx false)))
theorem zWe {i j:Nat}{n cn:Str}{Cc:Addr}{tx:TX}{ts:TS}{b0:Stmt}{suite:List Stmt}{p1 p2 np hp:Pos}(ow:Own X) (hN:X.N.Nodup) (hi:X.N[i]?=some x) (hx:Loc X.env.scope x) (he:PEx X e tx) (hs:swapsWith e (some (.Name x p1)) p2.line X.env=pure false) (hf:X.fn x=true\/X.env.scope.names.lookup x=some .local)
  (hj:X.N[j]?=some n) (hnl:X.env.scope.names.lookup n=some .local) (hg:Gl X cn) (hm:X.mg cn=some (.ref Cc)) (hsu:∀a Z,PSs (X.handl (.ref a) Z) (b0::suite) ts) (hdb:(cn == ("__debug__":Str))=false:=by decide):
  PS X (.Try [.Assign [.Name x p1] e p2] [.ExceptHandler (some (.Name cn np)) (some n) (b0::suite) hp] [] [] pos) (tTry X.K Cc i j tx ts):=by
 intro pins s σ H D I h
 refine wpAny_Try_except ?_
 refine xJ (Q:=fun fl s1=>fl=.next/\SP X pins D .next s1) (wpAny_execs_cons (thn (wpAny_Assign_Name (Q:=fun fl s2=>fl=.next/\SP X pins D .next s2) (thn (he pins s σ H _ _ I h) fun v s1 hz4=>by obtain⟨y,H1,I1,r1,q1⟩:=hz4;exact zBm I1 hN hi hx r1 (fun s2 I2=>⟨rfl,_,H1,I2,q1⟩) hf) hs) fun fl s1 q=>?_)) (fun fl s1 hq=>?_) fun ex s1 hq=>?_
 ·obtain⟨rfl,q⟩:=q
  exact ur ⟨rfl,q⟩
 ·obtain⟨rfl,hq⟩:=hq
  exact ur hq
 ·obtain⟨a,H1,rfl,⟨I1,C,dx,_,vs,sl,old,_,ha,tb,oo⟩,_,_,fr,ea,hcl,hts⟩:=hq
  obtain⟨⟨vs2,sl2,ha2,hz,_⟩,_⟩:=I1.hok a _ ea
  rw[ha]at ha2
  cases ha2
  have hne:s1.heap.objs.size≠a:=vz (xj ha)
  refine zHw (base:=X.base) (old:=old) (by rw[I1.ok.frames,ow.1]) (by have:=I1.stack;rwa[ow.1]at this) ow.2 ha rfl tb fun h' Nn=>?_
  have J:=I1.noted ow ea (by rw[ow.1];exact Nn) oo
  have ex:=Nn.exc _ vs ha rfl
  obtain⟨oT,tts,hT,hdT,h3⟩:=Nn.tb
  have hTn:upd H1 a (.ext (XO a C dx false)) s1.heap.objs.size=none:=by rw[zA2 hne];exact I1.hok.fresh (xh _)
  obtain⟨_,f1,_,f3,f4,f5⟩:=I1.fpOk (xh _) hTn
  refine wpAny_handleBy_cons (codeAny_handlers_test (zD3 (X:=X.handl (.ref a) X.xe) J.handl hg hm ?_ hdb)) (by intro q;cases q)
  refine PySem.W.Looks.here (PySem.W.exm_one J.kIn (zVj ex) hcl) ?_
  show codeAny _ _ _ _ _
  refine codeAny_handlers_suite_as (zMa ex rfl (by simp[hz]) hT hdT h3 fun h2 sb=>?_)
  have J2:Inv X pins σ (upd H1 a (.ext (XO a C dx false))) { s1 with heap:=h2 }:=J.turned (t':=s1.toks) (fun b o hb q=>(sb.2 b hb).trans q) hTn f1 f3 f4 f5
  refine zBm J2 hN hj (.inl hnl) (v:=.ref a) rfl (fun s3 I3=>?_) (.inr hnl)
  refine xJ (hsu a _ pins s3 _ _ _ I3.handl hts) (fun fl s4 q=>?_) fun _ _ z=>z
  cases fl with
  | next=>
   obtain⟨σ',H',I4,q⟩:=q
   have I5:=I4.unhandl I.ok
   obtain⟨m,hm',_⟩:=I5.loc
   exact wpAny_nameGoes_keeps hnl hm' (by rw[I.ok.kind];rfl) fun h5 v hv sb5=>⟨_,H',I5.unset hN hj hm' hv sb5,q⟩
  | ret u=>obtain⟨_,_,_,_,_,q⟩:=q;exact q.elim
  | brk=>obtain⟨_,_,_,q⟩:=q;exact q.elim
  | cont=>obtain⟨_,_,_,q⟩:=q;exact q.elim
end
end L2
namespace DS
open PySem (Str)
inductive D where
 | non|bl (b:Bool)|int (i:Int)|str (x:Str)|ty (n:String)
 | tup (l:List D)|ktup (l:List D)|lst (l:List D)|klst (l:List D)|dct (t:Bool) (ks vs:List D)|st (l:List D)
 | ref (n:Nat)
noncomputable abbrev Store:=List D
noncomputable abbrev Env:=List (Option D)
structure Exn where
 cls:Str
 fs:List (Str × D)
inductive Rs (α:Type) where
 | ok (a:α) (S:Store)|ex (x:Exn) (S:Store)|bad
inductive SR where
 | nx (e:Env) (S:Store)|rt (d:D) (S:Store)|bk (e:Env) (S:Store)|ct (e:Env) (S:Store)|ex (x:Exn) (S:Store)|bad
noncomputable def Rs.bind {α β:Type}(r:Rs α) (k:α->Store->Rs β):Rs β:=match r with
 | .ok a S=>k a S
 | .ex x S=>.ex x S
 | .bad=>.bad
@[simp] theorem Rs.bind_ok {α β:Type}{a:α}{S:Store}{k:α->Store->Rs β}:(Rs.ok a S).bind k=k a S:=rfl
@[simp] theorem Rs.bind_ex {α β:Type}{x:Exn}{S:Store}{k:α->Store->Rs β}:(Rs.ex x S:Rs α).bind k=.ex x S:=rfl
@[simp] theorem Rs.bind_bad {α β:Type}{k:α->Store->Rs β}:(Rs.bad:Rs α).bind k=.bad:=rfl
noncomputable def Rs.then {α:Type}(r:Rs α) (k:α->Store->SR):SR:=match r with
 | .ok a S=>k a S
 | .ex x S=>.ex x S
 | .bad=>.bad
@[simp] theorem Rs.then_ok {α:Type}{a:α}{S:Store}{k:α->Store->SR}:(Rs.ok a S).then k=k a S:=rfl
@[simp] theorem Rs.then_ex {α:Type}{x:Exn}{S:Store}{k:α->Store->SR}:(Rs.ex x S:Rs α).then k=.ex x S:=rfl
@[simp] theorem Rs.then_bad {α:Type}{k:α->Store->SR}:(Rs.bad:Rs α).then k=.bad:=rfl
noncomputable def lift {α:Type}(o:Option α) (S:Store):Rs α:=match o with
 | some a=>.ok a S
 | none=>.bad
@[simp] theorem zAc {α:Type}{a:α}{S:Store}:lift (some a) S=.ok a S:=rfl
@[simp] theorem zXn {α:Type}{S:Store}:lift (none:Option α) S=.bad:=rfl
noncomputable def zTk {α:Type}(o:Option (α × Store)):Rs α:=match o with
 | some a=>.ok a.1 a.2
 | none=>.bad
@[simp] theorem zDr {α:Type}{a:α × Store}:zTk (some a)=.ok a.1 a.2:=rfl
@[simp] theorem zVa {α:Type}:zTk (none:Option (α × Store))=.bad:=rfl
mutual
/-- all refs are below n -/
noncomputable def D.low (n:Nat):D->Bool
 | .ref m=>decide (m<n)
 | .tup l=>lowL n l
 | .lst l=>lowL n l
 | .ktup l=>lowL n l
 | .klst l=>lowL n l
 | .dct _ ks vs=>lowL n ks && lowL n vs
 | .st l=>lowL n l
 | .non=>true
 | .bl _=>true
 | .int _=>true
 | .str _=>true
 | .ty _=>true
noncomputable def lowL (n:Nat):List D->Bool
 | []=>true
 | d::r=>d.low n && lowL n r
end
noncomputable section
open Classical
noncomputable def look (S:Store):D->Option D
 | .ref n=>S[n]?
 | .ktup l=>some (.tup l)
 | .klst l=>some (.lst l)
 | d=>some d
noncomputable def items (S:Store) (d:D):Option (List D):=match look S d with
 | some (.tup l)=>some l
 | some (.lst l)=>some l
 | _=>none
noncomputable def litems (S:Store) (d:D):Option (List D):=match d with
 | .klst _=>none
 | d=>match look S d with
  | some (.lst l)=>some l
  | _=>none
noncomputable abbrev EM:=Env->Store->Rs D
noncomputable abbrev TM:=Env->Store->Rs Bool
noncomputable abbrev AM:=Env->Store->Rs (List D)
noncomputable abbrev SM:=Env->Store->SR
noncomputable abbrev GM:=Store->D->Env->Option Env
noncomputable abbrev Fn:=List D->Store->Rs D
noncomputable def eVar (i:Nat):EM:=fun env S=>match env[i]? with
 | some (some d)=>.ok d S
 | _=>.bad
noncomputable def eC (d:D):EM:=fun _ S=>.ok d S
noncomputable def eOp (g:Store->D->D->Option D) (a b:EM):EM:=fun env S=>(a env S).bind fun x S1=>(b env S1).bind fun y S2=>lift (g S2 x y) S2
noncomputable def eUn (g:Store->D->Option D) (a:EM):EM:=fun env S=>(a env S).bind fun x S1=>lift (g S1 x) S1
noncomputable def aNil:AM:=fun _ S=>.ok [] S
noncomputable def zA0 (a:EM) (r:AM):AM:=fun env S=>(a env S).bind fun x S1=>(r env S1).bind fun xs S2=>.ok (x::xs) S2
noncomputable def eTup (a:AM):EM:=fun env S=>(a env S).bind fun xs S1=>.ok (.tup xs) S1
noncomputable def eLst (a:AM):EM:=fun env S=>(a env S).bind fun xs S1=>.ok (.lst xs) S1
noncomputable def zPj (ks:List D) (a:AM):EM:=fun env S=>(a env (S++[.dct false [] []])).bind fun vs S1=>if S1[S.length]?=some (.dct false [] [])then .ok (.ref S.length) (S1.set S.length (.dct false ks vs))else .bad
noncomputable def eNew (a:EM):EM:=fun env S=>(a env S).bind fun x S1=>.ok (.ref S1.length) (S1++[x])
noncomputable def eCB (g:Store->List D->Option D) (a:AM):EM:=fun env S=>(a env S).bind fun xs S1=>lift (g S1 xs) S1
noncomputable def zA8 (F:Fn) (a:AM):EM:=fun env S=>(a env S).bind fun xs S1=>F xs S1
noncomputable def tyD (S:Store) (d:D):Option String:=match look S d with
 | some (.str _)=>some "str"
 | some (.lst _)=>some "list"
 | some (.dct _ _ _)=>some "dict"
 | some (.tup _)=>some "tuple"
 | some (.int _)=>some "int"
 | some (.bl _)=>some "bool"
 | some .non=>some "NoneType"
 | some (.st _)=>some "set"
 | _=>none
noncomputable def eMt (T:String) (g:Store->D->List D->Option (D × Store)) (o:EM) (a:AM):EM:=fun env S=>(o env S).bind fun x S1=>if tyD S1 x=some T then(a env S1).bind fun xs S2=>zTk (g S2 x xs)else .bad
noncomputable def asI:D->Option Int
 | .int i=>some i
 | _=>none
noncomputable def pNo:Env->Store->Rs (Option Int):=fun _ S=>.ok none S
noncomputable def pYes (a:EM):Env->Store->Rs (Option Int):=fun env S=>(a env S).bind fun x S1=>lift ((asI x).map some) S1
noncomputable def eSl (g:Store->D->Option Int->Option Int->Option D) (a:EM) (lo hi:Env->Store->Rs (Option Int)):EM:=fun env S=>
 (a env S).bind fun x S1=>(lo env S1).bind fun l S2=>(hi env S2).bind fun h S3=>lift (g S3 x l h) S3
noncomputable def asB:D->Option Bool
 | .bl b=>some b
 | _=>none
noncomputable def tB (a:EM):TM:=fun env S=>(a env S).bind fun x S1=>lift (asB x) S1
noncomputable def most:Nat:=2 ^ 24
noncomputable def truth (S:Store) (d:D):Option Bool:=match look S d with
 | some (.bl b)=>some b
 | some (.int i)=>some (decide (i≠0))
 | some (.str x)=>if x.length<=most then some (decide (x.length≠0))else none
 | some (.tup l)=>some (decide (l≠[]))
 | some (.lst l)=>some (decide (l≠[]))
 | some .non=>some false
 | _=>none
noncomputable def tTru (a:EM):TM:=fun env S=>(a env S).bind fun x S1=>lift (truth S1 x) S1
noncomputable def tAnd (a b:TM):TM:=fun env S=>(a env S).bind fun c S1=>if c=true then b env S1 else .ok false S1
noncomputable def tOr (a b:TM):TM:=fun env S=>(a env S).bind fun c S1=>if c=true then .ok true S1 else b env S1
noncomputable def tNot (a:TM):TM:=fun env S=>(a env S).bind fun c S1=>.ok (!c) S1
noncomputable def tYes:TM:=fun _ S=>.ok true S
noncomputable def eAnd (a b:EM):EM:=fun env S=>(a env S).bind fun x S1=>(lift (asB x) S1).bind fun c S1=>if c=true then b env S1 else .ok (.bl false) S1
noncomputable def eOr (a b:EM):EM:=fun env S=>(a env S).bind fun x S1=>(lift (asB x) S1).bind fun c S1=>if c=true then .ok (.bl true) S1 else b env S1
noncomputable def eNot (a:EM):EM:=fun env S=>(a env S).bind fun x S1=>(lift (asB x) S1).bind fun c S1=>.ok (.bl (!c)) S1
noncomputable def eIf (c:TM) (a b:EM):EM:=fun env S=>(c env S).bind fun k S1=>if k=true then a env S1 else b env S1
noncomputable def zAy (g g':Store->D->D->Option D) (a b c:EM):EM:=fun env S=>(a env S).bind fun x S1=>(b env S1).bind fun y S2=>(lift (g S2 x y) S2).bind fun z S3=>(lift (asB z) S3).bind fun k S3=>
 if k=true then(c env S3).bind fun w S4=>lift (g' S4 y w) S4 else .ok (.bl false) S3
structure Walk where
 its:List D
 gd:List (Nat × D)
noncomputable def gOk (S:Store) (gd:List (Nat × D)):Prop:=∀p∈gd,S[p.1]?=some p.2
noncomputable abbrev IM:=Env->Store->Rs Walk
noncomputable def gdOf (S:Store):D->List (Nat × D)
 | .ref n=>match S[n]? with
  | some d=>[(n,d)]
  | none=>[]
 | _=>[]
noncomputable def chars (x:Str):List D:=x.cps.toList.map fun c=>.str ⟨#[c]⟩
noncomputable def zCg (S:Store) (d:D):Option Walk:=match look S d with
 | some (.tup l)=>some ⟨l,gdOf S d⟩
 | some (.lst l)=>some ⟨l,gdOf S d⟩
 | some (.str x)=>if x.cps.all (·<128)then some ⟨chars x,[]⟩else none
 | _=>none
noncomputable def iVal (a:EM):IM:=fun env S=>(a env S).bind fun x S1=>lift (zCg S1 x) S1
noncomputable def fits62 (i:Int):Bool:=decide (-(2 ^ 62)<=i/\i<2 ^ 62)
noncomputable def zDn (i j:Int):List D:=(List.range (j-i).toNat).map fun(k:Nat)=>.int (i+k)
noncomputable def zEe:List D->Option Walk
 | [.int j]=>if fits62 j then some ⟨zDn 0 j,[]⟩else none
 | [.int i,.int j]=>if fits62 i && fits62 j then some ⟨zDn i j,[]⟩else none
 | _=>none
noncomputable def zFo (a:AM):IM:=fun env S=>(a env S).bind fun xs S1=>lift (zEe xs) S1
noncomputable def gName (i:Nat):GM:=fun _ d env=>some (env.set i (some d))
noncomputable def gAll:List GM->Store->List D->Env->Option Env
 | [],_,[],env=>some env
 | g::gs,S,d::ds,env=>match g S d env with
  | some env'=>gAll gs S ds env'
  | none=>none
 | _,_,_,_=>none
noncomputable def gTup (gs:List GM):GM:=fun S d env=>match items S d with
 | some l=>gAll gs S l env
 | none=>none
noncomputable def zC2 (gd:List (Nat × D)) (g:GM) (c:TM) (e:EM):Nat->List D->Env->Store->Rs (List D)
 | _,[],_,S=>if gOk S gd then .ok [] S else .bad
 | k,d::r,env,S=>if gOk S gd/\k<most then(match g S d env with
  | some env'=>(c env' S).bind fun b S1=>if b=true then(e env' S1).bind fun v S2=>(zC2 gd g c e (k+1) r env' S2).bind fun vs S3=>.ok (v::vs) S3 else zC2 gd g c e k r env' S1
  | none=>.bad)else .bad
noncomputable def compEnv (own:Nat) (ix:List Nat) (env:Env):Env:=List.replicate own none++ix.map fun i=>(env[i]?).join
noncomputable def zAf (own:Nat) (ix:List Nat) (i:IM) (g:GM) (c:TM) (e:EM):EM:=fun env S=>
 (i env S).bind fun w S1=>(zC2 w.gd g c e 0 w.its (compEnv own ix env) S1).bind fun vs S2=>.ok (.lst vs) S2
noncomputable def zAv:SM:=fun env S=>.nx env S
noncomputable def sSeq (a b:SM):SM:=fun env S=>match a env S with
 | .nx e S1=>b e S1
 | r=>r
noncomputable def sSet (i:Nat) (e:EM):SM:=fun env S=>(e env S).then fun d S1=>.nx (env.set i (some d)) S1
noncomputable def sUnp (g:GM) (e:EM):SM:=fun env S=>(e env S).then fun d S1=>match g S1 d env with
 | some env'=>.nx env' S1
 | none=>.bad
noncomputable def zJ0 (e:EM):SM:=fun env S=>(e env S).then fun _ S1=>.nx env S1
noncomputable def sRet (e:EM):SM:=fun env S=>(e env S).then fun d S1=>.rt d S1
noncomputable def zZw:SM:=fun _ S=>.rt .non S
noncomputable def sIf (c:TM) (a b:SM):SM:=fun env S=>(c env S).then fun k S1=>if k=true then a env S1 else b env S1
noncomputable def zKf:List Nat->List D->Env->Option Env
 | [],[],env=>some env
 | i::is,d::ds,env=>zKf is ds (env.set i (some d))
 | _,_,_=>none
noncomputable def sPar (is:List Nat) (a:AM):SM:=fun env S=>(a env S).then fun ds S1=>match zKf is ds env with
 | some env'=>.nx env' S1
 | none=>.bad
noncomputable def sPut (g:Store->D->D->D->Option Store) (o i v:EM):SM:=fun env S=>(v env S).then fun y S1=>(o env S1).then fun x S2=>(i env S2).then fun k S3=>match g S3 x k y with
 | some S4=>.nx env S4
 | none=>.bad
noncomputable def forL (gd:List (Nat × D)) (g:GM) (b:SM):List D->Env->Store->SR
 | [],env,S=>if gOk S gd then .nx env S else .bad
 | d::r,env,S=>if gOk S gd then(match g S d env with
  | some env'=>(match b env' S with
   | .nx e S1=>forL gd g b r e S1
   | .ct e S1=>forL gd g b r e S1
   | .bk e S1=>.nx e S1
   | q=>q)
  | none=>.bad)else .bad
noncomputable def sFor (i:IM) (g:GM) (b:SM):SM:=fun env S=>(i env S).then fun w S1=>forL w.gd g b w.its env S1
noncomputable def zAs (c:TM) (b:SM):Nat->Env->Store->SR
 | 0,_,_=>.bad
 | n+1,env,S=>(c env S).then fun k S1=>if k=true then(match b env S1 with
   | .nx e S2=>zAs c b n e S2
   | .ct e S2=>zAs c b n e S2
   | .bk e S2=>.nx e S2
   | q=>q)else .nx env S1
noncomputable def zD0 (c:TM) (b:SM):SM:=fun env S=>if h:∃n,zAs c b n env S≠.bad then zAs c b (choose h) env S else .bad
theorem zBc {c:TM}{b:SM}:∀{n:Nat}{env:Env}{S:Store},zAs c b n env S≠.bad->∀m,n<=m->zAs c b m env S=zAs c b n env S
 | 0,_,_,h,_,_=>absurd rfl h
 | n+1,env,S,h,m,hm=>by
  obtain⟨m,rfl⟩:∃k,m=k+1:=⟨m-1,by nofun⟩
  unfold zAs at h ⊢
  cases hc:c env S with
  | ok k S1=>
   rw[hc]at h
   simp only[Rs.then_ok]at h ⊢
   by_cases hk:k=true
   ·rw[xc hk]at h ⊢
    rw[xc hk]
    cases hb:b env S1 with
    | nx e S2=>rw[hb]at h;exact zBc h m (by nofun)
    | ct e S2=>rw[hb]at h;exact zBc h m (by nofun)
    | _=>rfl
   ·rw[xf hk,xf hk]
  | ex x S1=>rfl
  | bad=>rfl
theorem zKi {c:TM}{b:SM}{n:Nat}{env:Env}{S:Store}(h:zAs c b n env S≠.bad):zD0 c b env S=zAs c b n env S:=by
 unfold zD0
 have hx:∃n,zAs c b n env S≠.bad:=⟨n,h⟩
 rw[dif_pos hx]
 have h1:=choose_spec hx
 rw[<- zBc h1 (max (choose hx) n) (Nat.le_max_left _ _),<- zBc h (max (choose hx) n) (Nat.le_max_right _ _)]
noncomputable def keeps (n:Nat):Store->Store->Prop
 | [],_=>True
 | a::r,b::t=>(a=b\/b.low n=true)/\keeps n r t
 | _::_,[]=>False
noncomputable def fin (S:Store) (d:D) (S':Store):Rs D:=
 if keeps S.length S S' then
  if d.low S.length=true then .ok d (S'.take S.length)
  else match d with
   | .ref n=>match S'[n]? with
    | some c=>if c.low S.length=true then .ok c (S'.take S.length)else .ok d S'
    | none=>.bad
   | _=>.ok d S'
 else .ok d S'
noncomputable def zAi (np nl:Nat) (b:SM):Fn:=fun ds S=>if ds.length=np then
  (match b (ds.map some++List.replicate (nl-np) none) S with
  | .nx _ S'=>fin S .non S'
  | .rt d S'=>fin S d S'
  | .ex x S'=>.ex x S'
  | _=>.bad)
 else .bad
noncomputable def zDg (np nl:Nat) (b:SM):Fn:=fun ds S=>if ds.length=np then
  (match b (ds.map some++List.replicate (nl-np) none) S with
  | .nx _ S'=>.ok .non S'
  | .rt d S'=>.ok d S'
  | .ex x S'=>.ex x S'
  | _=>.bad)
 else .bad
end
end DS
namespace L2
open PySem PySem.Spec PyProof.Rows
open DS (D Store Exn Rs SR)
noncomputable abbrev Js:=List Addr
noncomputable def TAt (K:PySem.W.Frag) (J:Js) (H:Hp) (a:Addr) (xs:List V):Prop:=H a=some (.tup xs)/\a ∉ J
noncomputable def KAt (K:PySem.W.Frag) (a:Addr) (xs:List V):Prop:=∃(o:Obj) (its:Array Value) (n:Nat),K.lookup a=some o/\o.cls=.type "tuple"/\o.data=.seq its n/\its.size<=sizeLine/\Vals xs its.toList
noncomputable def LAt (K:PySem.W.Frag) (J:Js) (H:Hp) (a:Addr) (xs:List V):Prop:=H a=some (.lst xs)/\a ∉ J
noncomputable def SAt (K:PySem.W.Frag) (J:Js) (H:Hp) (a:Addr) (xs:List V):Prop:=
 (Rd H a (.lst xs)/\a ∉ J)\/∃(o:Obj) (its:Array Value) (n:Nat),K.lookup a=some o/\o.cls=.type "list"/\o.dict=none/\o.data=.seq its n/\its.size<=sizeLine/\Vals xs its.toList
noncomputable def keyD:Key->D
 | .inl i=>.int i
 | .inr x=>.str x
noncomputable def zRm (k:List Key):D:=.tup (k.map keyD)
noncomputable def DOb (o:HO) (t:Bool) (ks:List D) (xs:List V):Prop:=
 (t=false/\∃kvs:List (Key × V),o=.dK kvs/\ks=kvs.map (fun p=>keyD p.1)/\xs=kvs.map (·.2)) \/
  (t=true/\∃kvs:List (List Key × V),o=.dT kvs/\ks=kvs.map (fun p=>zRm p.1)/\xs=kvs.map (·.2))
noncomputable def XFs (J:Js) (H:Hp) (dx:Option Addr) (xs:List (Str × V)):Prop:=(dx=none/\xs=[])\/∃d,dx=some d/\d ∉ J/\H d=some (.xd xs)
mutual
noncomputable def Rep (K:PySem.W.Frag) (J:Js) (H:Hp):D->V->Prop
 | .non,v=>v=.non
 | .bl b,v=>v=.bl b
 | .int i,v=>v=.int i
 | .str x,v=>v=.str x
 | .ty n,v=>v=.ty n
 | .tup ds,v=>∃a xs,v=.ref a/\TAt K J H a xs/\RepL K J H ds xs
 | .lst ds,v=>∃a xs,v=.ref a/\LAt K J H a xs/\RepL K J H ds xs
 | .ktup ds,v=>∃a xs,v=.ref a/\KAt K a xs/\RepL K J H ds xs
 | .klst ds,v=>∃a xs,v=.ref a/\SAt K J H a xs/\RepL K J H ds xs
 | .dct t ks vs,v=>∃a o xs,v=.ref a/\a ∉ J/\Rd H a o/\DOb o t ks xs/\RepL K J H vs xs
 | .st l,v=>∃a C dx fr xs,v=.ref a/\a ∉ J/\H a=some (.ext (XO a C dx fr))/\XFs J H dx xs/\RepX K J H C l xs
 | .ref n,v=>∃a,J[n]?=some a/\v=.ref a
/-- an exception as a datum: its class's address,its fields -/
noncomputable def RepX (K:PySem.W.Frag) (J:Js) (H:Hp) (C:Addr):List D->List (Str × V)->Prop
 | [],_=>False
 | .int c::l,xs=>c=(C:Int)/\RepF K J H l xs
 | _::_,_=>False
noncomputable def RepF (K:PySem.W.Frag) (J:Js) (H:Hp):List D->List (Str × V)->Prop
 | [],xs=>xs=[]
 | .str f::d::l,xs=>∃x r,xs=(f,x)::r/\Rep K J H d x/\RepF K J H l r
 | _::_,_=>False
noncomputable def RepL (K:PySem.W.Frag) (J:Js) (H:Hp):List D->List V->Prop
 | [],xs=>xs=[]
 | d::ds,xs=>∃x r,xs=x::r/\Rep K J H d x/\RepL K J H ds r
end
noncomputable def ObD (K:PySem.W.Frag) (J:Js) (H:Hp):D->HO->Prop
 | .lst ds,o=>∃xs,o=.lst xs/\RepL K J H ds xs
 | .dct t ks vs,o=>∃xs,DOb o t ks xs/\RepL K J H vs xs
 | _,_=>False
noncomputable def RepO (K:PySem.W.Frag) (J:Js) (H:Hp) (d:D) (a:Addr):Prop:=∃o,H a=some o/\ObD K J H d o
structure AbS (K:PySem.W.Frag) (J:Js) (S:Store) (H:Hp):Prop where
 len:J.length=S.length
 nd:J.Nodup
 ob:∀(i:Nat) (a:Addr) (d:D),J[i]?=some a->S[i]?=some d->RepO K J H d a
noncomputable def Fz (o:HO) (x:Option HO):Prop:=x=some o\/((∃kvs,o=.dT kvs)/\∃ob,x=some (.frz ob o))
theorem Fz.tup {xs:List V}{x:Option HO}(h:Fz (.tup xs) x):x=some (.tup xs):=by
 rcases h with h|⟨⟨_,z⟩,_⟩
 ·exact h
 ·cases z
theorem Fz.lst {xs:List V}{x:Option HO}(h:Fz (.lst xs) x):x=some (.lst xs):=by
 rcases h with h|⟨⟨_,z⟩,_⟩
 ·exact h
 ·cases z
theorem Fz.ext {q:Heap->Prop}{x:Option HO}(h:Fz (.ext q) x):x=some (.ext q):=by
 rcases h with h|⟨⟨_,z⟩,_⟩
 ·exact h
 ·cases z
theorem Fz.xd {xs:List (Str × V)}{x:Option HO}(h:Fz (.xd xs) x):x=some (.xd xs):=by
 rcases h with h|⟨⟨_,z⟩,_⟩
 ·exact h
 ·cases z
theorem Fz.frz {ob:Obj}{u:HO}{x:Option HO}(h:Fz (.frz ob u) x):x=some (.frz ob u):=by
 rcases h with h|⟨⟨_,z⟩,_⟩
 ·exact h
 ·cases z
structure Grow (J:Js) (H:Hp) (J':Js) (H':Hp):Prop where
 pre:∀(i:Nat) (a:Addr),J[i]?=some a->J'[i]?=some a
 new:∀a∈J',a ∉ J->H a=none
 keep:∀b o,b ∉ J->H b=some o->Fz o (H' b)
 dom:∀b,H' b=none->H b=none
structure RepE (K:PySem.W.Frag) (J:Js) (H:Hp) (env:DS.Env) (σ:St):Prop where
 len:env.length=σ.length
 get:∀(i:Nat) (d:D),env[i]?=some (some d)->∃v,σ[i]?=some (some v)/\Rep K J H d v
section
variable {K:PySem.W.Frag}{J J' J1 J2:Js}{H H' H1 H2:Hp}{a:Addr}{d:D}{v:V}{S S':Store}{env:DS.Env}{σ:St}
theorem Grow.refl:Grow J H J H:=⟨fun _ _ h=>h,fun _ h n=>absurd h n,fun _ _ _ h=>.inl h,fun _ h=>h⟩
theorem Grow.trans (g:Grow J H J1 H1) (k:Grow J1 H1 J2 H2):Grow J H J2 H2 where
 pre:=fun i a h=>k.pre i a (g.pre i a h)
 new:=fun a h n=>by
  by_cases z:a∈J1
  ·exact g.new a z n
  ·exact g.dom a (k.new a h z)
 keep:=fun b o n h=>by
  have n1:b ∉ J1:=fun z=>by rw[g.new b z n]at h;cases h
  rcases g.keep b o n h with e|⟨z,ob,e⟩
  ·exact k.keep b o n1 e
  ·exact .inr ⟨z,ob,(k.keep b _ n1 e).frz⟩
 dom:=fun b h=>g.dom b (k.dom b h)
theorem Grow.out {o:HO}(g:Grow J H J' H') (n:a ∉ J) (h:H a=some o):a ∉ J':=fun z=>by rw[g.new a z n]at h;cases h
theorem Grow.rd {u:HO}(g:Grow J H J' H') (n:a ∉ J) (h:Rd H a u):Rd H' a u/\a ∉ J':=by
 rcases h with h|⟨o,h⟩
 ·refine⟨?_,g.out n h⟩
  rcases g.keep _ _ n h with e|⟨_,ob,e⟩
  ·exact .inl e
  ·exact .inr ⟨ob,e⟩
 ·exact⟨.inr ⟨o,(g.keep _ _ n h).frz⟩,g.out n h⟩
theorem TAt.sq {xs:List V}(h:TAt K J H a xs):SqT K H a xs:=.inl (.inl h.1)
theorem KAt.sq {xs:List V}(h:KAt K a xs):SqT K H a xs:=.inr h
theorem LAt.sq {xs:List V}(h:LAt K J H a xs):SqL K H a xs:=.inl (.inl h.1)
theorem SAt.sq {xs:List V}(h:SAt K J H a xs):SqL K H a xs:=by
 rcases h with h|h
 ·exact .inl h.1
 ·exact .inr h
theorem SAt.grow {xs:List V}(g:Grow J H J' H') (h:SAt K J H a xs):SAt K J' H' a xs:=by
 rcases h with h|h
 ·exact .inl (g.rd h.2 h.1)
 ·exact .inr h
theorem TAt.grow {xs:List V}(g:Grow J H J' H') (h:TAt K J H a xs):TAt K J' H' a xs:=⟨(g.keep _ _ h.2 h.1).tup,g.out h.2 h.1⟩
theorem LAt.grow {xs:List V}(g:Grow J H J' H') (h:LAt K J H a xs):LAt K J' H' a xs:=⟨(g.keep _ _ h.2 h.1).lst,g.out h.2 h.1⟩
theorem XFs.grow {dx:Option Addr}{xs:List (Str × V)}(g:Grow J H J' H') (h:XFs J H dx xs):XFs J' H' dx xs:=by
 rcases h with h|⟨d,e,n,h⟩
 ·exact .inl h
 ·exact .inr ⟨d,e,g.out n h,(g.keep _ _ n h).xd⟩
mutual
theorem Rep.grow (g:Grow J H J' H'):∀(d:D) (v:V),Rep K J H d v->Rep K J' H' d v
 | .non,_,h=>h
 | .bl _,_,h=>h
 | .int _,_,h=>h
 | .str _,_,h=>h
 | .ty _,_,h=>h
 | .tup ds,v,⟨a,xs,e,t,r⟩=>⟨a,xs,e,t.grow g,RepL.grow g ds xs r⟩
 | .lst ds,v,⟨a,xs,e,t,r⟩=>⟨a,xs,e,t.grow g,RepL.grow g ds xs r⟩
 | .ktup ds,v,⟨a,xs,e,t,r⟩=>⟨a,xs,e,t,RepL.grow g ds xs r⟩
 | .klst ds,v,⟨a,xs,e,t,r⟩=>⟨a,xs,e,t.grow g,RepL.grow g ds xs r⟩
 | .dct _ ks vs,v,⟨a,o,xs,e,n,h,t,r⟩=>⟨a,o,xs,e,(g.rd n h).2,(g.rd n h).1,t,RepL.grow g vs xs r⟩
 | .st l,v,⟨a,C,dx,fr,xs,e,n,h,f,r⟩=>⟨a,C,dx,fr,xs,e,g.out n h,(g.keep _ _ n h).ext,f.grow g,RepX.grow g C l xs r⟩
 | .ref n,v,⟨a,e,h⟩=>⟨a,g.pre n a e,h⟩
theorem RepX.grow (g:Grow J H J' H') (C:Addr):∀(l:List D) (xs:List (Str × V)),RepX K J H C l xs->RepX K J' H' C l xs
 | .int _::l,xs,h=>⟨h.1,RepF.grow g l xs h.2⟩
theorem RepF.grow (g:Grow J H J' H'):∀(l:List D) (xs:List (Str × V)),RepF K J H l xs->RepF K J' H' l xs
 | [],_,h=>h
 | .str _::d::l,xs,⟨x,r,e,h,t⟩=>⟨x,r,e,Rep.grow g d x h,RepF.grow g l r t⟩
theorem RepL.grow (g:Grow J H J' H'):∀(ds:List D) (xs:List V),RepL K J H ds xs->RepL K J' H' ds xs
 | [],_,h=>h
 | d::ds,xs,⟨x,r,e,h,t⟩=>⟨x,r,e,Rep.grow g d x h,RepL.grow g ds r t⟩
end
theorem RepE.grow (g:Grow J H J' H') (h:RepE K J H env σ):RepE K J' H' env σ:=⟨h.len,fun i d e=>by
 obtain⟨v,q,r⟩:=h.get i d e
 exact⟨v,q,Rep.grow g d v r⟩⟩
theorem RepL.length:∀{ds:List D}{xs:List V},RepL K J H ds xs->ds.length=xs.length
 | [],_,h=>by cases h;rfl
 | _::ds,_,⟨x,r,e,_,t⟩=>by subst e;simp[RepL.length t]
theorem RepL.get:∀{ds:List D}{xs:List V}{i:Nat}{d:D},RepL K J H ds xs->ds[i]?=some d->∃x,xs[i]?=some x/\Rep K J H d x
 | [],_,_,_,_,e=>by simp at e
 | d::ds,_,0,_,⟨x,r,e,h,t⟩,q=>by subst e;simp at q;subst q;exact⟨x,rfl,h⟩
 | _::ds,_,i+1,d,⟨x,r,e,_,t⟩,q=>by subst e;exact RepL.get (i:=i) t (by simpa using q)
theorem RepL.get' {ds:List D}{xs:List V}{i:Nat}{x:V}(h:RepL K J H ds xs) (e:xs[i]?=some x):∃d,ds[i]?=some d/\Rep K J H d x:=by
 have hl:=h.length
 have hi:i<ds.length:=by rw[hl];exact(xI.mp e).1
 obtain⟨y,ey,r⟩:=h.get (xC hi)
 rw[e]at ey;cases ey
 exact⟨_,xC hi,r⟩
theorem RepL.append:∀{ds es:List D}{xs ys:List V},RepL K J H ds xs->RepL K J H es ys->RepL K J H (ds++es) (xs++ys)
 | [],_,_,_,h,k=>by cases h;exact k
 | d::ds,_,_,_,⟨x,r,e,h,t⟩,k=>by subst e;exact⟨x,_,rfl,h,t.append k⟩
theorem RepL.snoc {ds:List D}{xs:List V}{x:V}(h:RepL K J H ds xs) (r:Rep K J H d x):RepL K J H (ds++[d]) (xs++[x]):=h.append ⟨x,[],rfl,r,rfl⟩
theorem RepL.take:∀{ds:List D}{xs:List V}(n:Nat),RepL K J H ds xs->RepL K J H (ds.take n) (xs.take n)
 | _,_,0,_=>rfl
 | [],_,_+1,h=>by cases h;rfl
 | d::ds,_,n+1,⟨x,r,e,h,t⟩=>by subst e;exact⟨x,_,rfl,h,t.take n⟩
theorem RepL.drop:∀{ds:List D}{xs:List V}(n:Nat),RepL K J H ds xs->RepL K J H (ds.drop n) (xs.drop n)
 | _,_,0,h=>h
 | [],_,_+1,h=>by cases h;rfl
 | d::ds,_,n+1,⟨x,r,e,h,t⟩=>by subst e;exact t.drop n
theorem RepL.reverse:∀{ds:List D}{xs:List V},RepL K J H ds xs->RepL K J H ds.reverse xs.reverse
 | [],_,h=>by cases h;rfl
 | d::ds,_,⟨x,r,e,h,t⟩=>by subst e;rw[List.reverse_cons,List.reverse_cons];exact t.reverse.snoc h
theorem RepL.dropLast {ds:List D}{xs:List V}(h:RepL K J H ds xs):RepL K J H ds.dropLast xs.dropLast:=by
 rw[List.dropLast_eq_take,List.dropLast_eq_take,h.length];exact h.take _
theorem RepL.ints:∀{ns:List Int},RepL K J H (ns.map D.int) (ns.map V.int)
 | []=>rfl
 | n::ns=>⟨_,_,rfl,rfl,RepL.ints⟩
theorem AbS.lt (h:AbS K J S H) {n:Nat}(e:J[n]?=some a):n<S.length:=by rw[<- h.len];exact(xI.mp e).1
theorem AbS.at (h:AbS K J S H) {n:Nat}(e:J[n]?=some a):∃d,S[n]?=some d/\RepO K J H d a:=
 ⟨S[n]'(h.lt e),xC (h.lt e),h.ob n a _ e (xC (h.lt e))⟩
theorem AbS.mem (h:AbS K J S H) (m:a∈J):∃o,H a=some o:=by
 obtain⟨i,e⟩:=List.mem_iff_getElem?.mp m
 obtain⟨d,_,o,r,_⟩:=h.at e
 exact⟨o,r⟩
theorem AbS.out (h:AbS K J S H) (n:H a=none):a ∉ J:=fun m=>by
 obtain⟨o,e⟩:=h.mem m
 rw[n]at e;cases e
theorem ObD.imp {o:HO}(rl:∀ds xs,RepL K J H ds xs->RepL K J' H' ds xs):∀{d:D},ObD K J H d o->ObD K J' H' d o
 | .lst ds,⟨xs,e,r⟩=>⟨xs,e,rl _ _ r⟩
 | .dct _ ks vs,⟨xs,e,r⟩=>⟨xs,e,rl _ _ r⟩
 | .non,h=>False.elim h
 | .bl _,h=>False.elim h
 | .int _,h=>False.elim h
 | .str _,h=>False.elim h
 | .ty _,h=>False.elim h
 | .tup _,h=>False.elim h
 | .ktup _,h=>False.elim h
 | .klst _,h=>False.elim h
 | .st _,h=>False.elim h
 | .ref _,h=>False.elim h
theorem ObD.grow {o:HO}(g:Grow J H J' H') (h:ObD K J H d o):ObD K J' H' d o:=h.imp (RepL.grow g)
theorem Grow.of (k:∀b o,H b=some o->H' b=some o):Grow J H J H':=⟨fun _ _ h=>h,fun _ h n=>absurd h n,fun b o _ h=>.inl (k b o h),fun b h=>by
 cases e:H b with
 | none=>rfl
 | some o=>rw[k b o e]at h;cases h⟩
theorem AbS.more (h:AbS K J S H) (k:∀b o,H b=some o->H' b=some o):AbS K J S H':=
 ⟨h.len,h.nd,fun i a d e q=>by
  obtain⟨o,eo,r⟩:=h.ob i a d e q
  exact⟨o,k _ _ eo,r.grow (.of k)⟩⟩
theorem zBr {p:Addr}{o:HO}(n:H p=none):∀b u,H b=some u->upd H p o b=some u:=fun b u e=>by rw[zA2 (zA4 e n)];exact e
theorem AbS.push {p:Addr}{o:HO}(h:AbS K J S H) (n:H p=none):AbS K J S (upd H p o):=h.more (zBr n)
theorem Grow.push {p:Addr}{o:HO}(n:H p=none):Grow J H J (upd H p o):=.of (zBr n)
theorem Grow.name {p:Addr}{o:HO}(n:H p=none):Grow J H (J++[p]) (upd H p o) where
 pre:=fun i a h=>by rw[x6 (xI.mp h).1];exact h
 new:=fun a h z=>by
  rcases vn.mp h with h|h
  ·exact absurd h z
  ·rw[xV.mp h];exact n
 keep:=fun b u _ e=>.inl (zBr n b u e)
 dom:=(Grow.push (J:=J) n).dom
theorem AbS.name {p:Addr}{o:HO}(h:AbS K J S H) (n:H p=none) (r:ObD K J H d o):AbS K (J++[p]) (S++[d]) (upd H p o):=by
 have hp:=h.out n
 have g:Grow J H (J++[p]) (upd H p o):=.name n
 refine⟨by simp[h.len],?_,fun i a d' e q=>?_⟩
 ·refine List.nodup_append.mpr ⟨h.nd,(vo.mpr ⟨by simp,List.nodup_nil⟩),fun x hx y hy=>?_⟩
  rintro rfl
  exact hp (by rw[<- xV.mp hy];exact hx)
 ·by_cases hi:i<J.length
  ·rw[x6 hi]at e
   rw[x6 (by rw[<- h.len];exact hi)]at q
   obtain⟨o',eo,r'⟩:=h.ob i a d' e q
   exact⟨o',zBr n _ _ eo,r'.grow g⟩
  ·have hl:i=J.length:=by
    have:=(xI.mp e).1
    simp at this
    lia
   subst hl
   rw[vA (xh _)]at e
   rw[vA (by rw[h.len];exact xh _),h.len]at q
   simp at e q
   subst e q
   exact⟨o,zA5,r.grow g⟩
theorem Grow.write {n:Nat}{o:HO}(e:J[n]?=some a):Grow J H J (upd H a o) where
 pre:=fun _ _ h=>h
 new:=fun b h z=>absurd h z
 keep:=fun b u z h=>.inl (by rw[zA2 (fun q=>z (by rw[q];exact uG e))];exact h)
 dom:=fun b h=>by
  by_cases q:b=a
  ·subst q;rw[zA5]at h;cases h
  ·rw[zA2 q]at h;exact h
theorem AbS.write {n:Nat}{o:HO}(h:AbS K J S H) (e:J[n]?=some a) (r:ObD K J H d o):AbS K J (S.set n d) (upd H a o):=by
 have g:Grow J H J (upd H a o):=.write e
 refine⟨by simp[h.len],h.nd,fun i b d' ei q=>?_⟩
 by_cases hi:i=n
 ·subst hi
  rw[e]at ei;cases ei
  rw[xY (h.lt e)]at q
  cases q
  exact⟨o,zA5,r.grow g⟩
 ·rw[xF (xr hi)]at q
  obtain⟨o',eo,r'⟩:=h.ob i b d' ei q
  have hb:b≠a:=fun z=>by
   subst z
   exact hi ((List.getElem?_inj (xI.mp ei).1 h.nd).mp (ei.trans e.symm))
  exact⟨o',by rw[zA2 hb];exact eo,r'.grow g⟩
theorem lowL_iff {n:Nat}:∀{l:List D},DS.lowL n l=true <-> ∀d∈l,d.low n=true
 | []=>⟨(fun _ _ h=>nomatch h),fun _=>rfl⟩
 | d::r=>by
  show(d.low n && DS.lowL n r)=true <-> _
  rw[xm,lowL_iff (l:=r)]
  simp
theorem zI3 (n:Nat) (k:Key):(keyD k).low n=true:=by cases k <;> rfl
theorem DOb.low {o:HO}{t:Bool}{ks:List D}{xs:List V}{n:Nat}(h:DOb o t ks xs):DS.lowL n ks=true:=by
 rcases h with⟨_,kvs,_,rfl,_⟩|⟨_,kvs,_,rfl,_⟩
 ·exact lowL_iff.mpr fun d hd=>by obtain⟨p,_,rfl⟩:=xB.mp hd;exact zI3 n p.1
 ·exact lowL_iff.mpr fun d hd=>by
   obtain⟨p,_,rfl⟩:=xB.mp hd
   show DS.lowL n (p.1.map keyD)=true
   exact lowL_iff.mpr fun d hd=>by obtain⟨q,_,rfl⟩:=xB.mp hd;exact zI3 n q
mutual
theorem Rep.low:∀(d:D) (v:V),Rep K J H d v->d.low J.length=true
 | .non,_,_=>rfl
 | .bl _,_,_=>rfl
 | .int _,_,_=>rfl
 | .str _,_,_=>rfl
 | .ty _,_,_=>rfl
 | .tup ds,v,⟨a,xs,e,t,r⟩=>RepL.low ds xs r
 | .lst ds,v,⟨a,xs,e,t,r⟩=>RepL.low ds xs r
 | .ktup ds,v,⟨a,xs,e,t,r⟩=>RepL.low ds xs r
 | .klst ds,v,⟨a,xs,e,t,r⟩=>RepL.low ds xs r
 | .dct _ ks vs,v,⟨a,o,xs,e,n,h,t,r⟩=>by
  show(DS.lowL J.length ks && DS.lowL J.length vs)=true
  rw[RepL.low vs xs r,Bool.and_true]
  exact DOb.low t
 | .st l,v,⟨a,C,dx,fr,xs,e,n,h,f,r⟩=>RepX.low C l xs r
 | .ref n,v,⟨a,e,h⟩=>xo (xI.mp e).1
theorem RepX.low (C:Addr):∀(l:List D) (xs:List (Str × V)),RepX K J H C l xs->DS.lowL J.length l=true
 | .int _::l,xs,h=>by
  show(true && DS.lowL J.length l)=true
  rw[RepF.low l xs h.2];rfl
theorem RepF.low:∀(l:List D) (xs:List (Str × V)),RepF K J H l xs->DS.lowL J.length l=true
 | [],_,h=>rfl
 | .str _::d::l,xs,⟨x,r,e,h,t⟩=>by
  show(true && (d.low J.length && DS.lowL J.length l))=true
  rw[Rep.low d x h,RepF.low l r t];rfl
theorem RepL.low:∀(ds:List D) (xs:List V),RepL K J H ds xs->DS.lowL J.length ds=true
 | [],_,_=>rfl
 | d::ds,xs,⟨x,r,e,h,t⟩=>by
  show(d.low J.length && DS.lowL J.length ds)=true
  rw[Rep.low d x h,RepL.low ds r t];rfl
end
theorem ObD.low {o:HO}:∀{d:D},ObD K J H d o->d.low J.length=true
 | .lst ds,⟨xs,_,r⟩=>RepL.low ds xs r
 | .dct _ ks vs,⟨xs,t,r⟩=>by
  show(DS.lowL J.length ks && DS.lowL J.length vs)=true
  rw[RepL.low vs xs r,Bool.and_true]
  exact DOb.low t
 | .non,h=>False.elim h
 | .bl _,h=>False.elim h
 | .int _,h=>False.elim h
 | .str _,h=>False.elim h
 | .ty _,h=>False.elim h
 | .tup _,h=>False.elim h
 | .ktup _,h=>False.elim h
 | .klst _,h=>False.elim h
 | .st _,h=>False.elim h
 | .ref _,h=>False.elim h
theorem zAz {n:Nat}(h:a ∉ J):a ∉ J.take n:=fun z=>h (List.mem_of_mem_take z)
mutual
theorem Rep.cut (n:Nat):∀(d:D) (v:V),d.low n=true->Rep K J H d v->Rep K (J.take n) H d v
 | .non,_,_,h=>h
 | .bl _,_,_,h=>h
 | .int _,_,_,h=>h
 | .str _,_,_,h=>h
 | .ty _,_,_,h=>h
 | .tup ds,v,l,⟨a,xs,e,t,r⟩=>⟨a,xs,e,⟨t.1,zAz t.2⟩,RepL.cut n ds xs l r⟩
 | .ktup ds,v,l,⟨a,xs,e,t,r⟩=>⟨a,xs,e,t,RepL.cut n ds xs l r⟩
 | .klst ds,v,l,⟨a,xs,e,t,r⟩=>⟨a,xs,e,by
   rcases t with t|t
   ·exact .inl ⟨t.1,zAz t.2⟩
   ·exact .inr t,RepL.cut n ds xs l r⟩
 | .lst ds,v,l,⟨a,xs,e,t,r⟩=>⟨a,xs,e,⟨t.1,zAz t.2⟩,RepL.cut n ds xs l r⟩
 | .dct _ ks vs,v,l,⟨a,o,xs,e,q,h,t,r⟩=>⟨a,o,xs,e,zAz q,h,t,RepL.cut n vs xs (by
   have l:(DS.lowL n ks && DS.lowL n vs)=true:=l
   rw[xm]at l
   exact l.2) r⟩
 | .st l,v,q,⟨a,C,dx,fr,xs,e,m,h,f,r⟩=>⟨a,C,dx,fr,xs,e,zAz m,h,by
   rcases f with f|⟨d,e,m,f⟩
   ·exact .inl f
   ·exact .inr ⟨d,e,zAz m,f⟩,RepX.cut n C l xs q r⟩
 | .ref m,v,l,⟨a,e,h⟩=>⟨a,by rw[uZ (uQ l)];exact e,h⟩
theorem RepX.cut (n:Nat) (C:Addr):∀(l:List D) (xs:List (Str × V)),DS.lowL n l=true->RepX K J H C l xs->RepX K (J.take n) H C l xs
 | .int _::l,xs,q,h=>⟨h.1,RepF.cut n l xs (by
   have q:(true && DS.lowL n l)=true:=q
   exact q) h.2⟩
theorem RepF.cut (n:Nat):∀(l:List D) (xs:List (Str × V)),DS.lowL n l=true->RepF K J H l xs->RepF K (J.take n) H l xs
 | [],_,_,h=>h
 | .str _::d::l,xs,q,⟨x,r,e,h,t⟩=>by
  have q:(true && (d.low n && DS.lowL n l))=true:=q
  rw[Bool.true_and,xm]at q
  exact⟨x,r,e,Rep.cut n d x q.1 h,RepF.cut n l r q.2 t⟩
theorem RepL.cut (n:Nat):∀(ds:List D) (xs:List V),DS.lowL n ds=true->RepL K J H ds xs->RepL K (J.take n) H ds xs
 | [],_,_,h=>h
 | d::ds,xs,l,⟨x,r,e,h,t⟩=>by
  have l:(d.low n && DS.lowL n ds)=true:=l
  rw[xm]at l
  exact⟨x,r,e,Rep.cut n d x l.1 h,RepL.cut n ds r l.2 t⟩
end
theorem ObD.cut {n:Nat}{o:HO}:∀{d:D},d.low n=true->ObD K J H d o->ObD K (J.take n) H d o
 | .lst ds,l,⟨xs,e,r⟩=>⟨xs,e,RepL.cut n ds xs l r⟩
 | .dct _ ks vs,l,⟨xs,t,r⟩=>⟨xs,t,RepL.cut n vs xs (by
   have l:(DS.lowL n ks && DS.lowL n vs)=true:=l
   rw[xm]at l
   exact l.2) r⟩
 | .non,_,h=>False.elim h
 | .bl _,_,h=>False.elim h
 | .int _,_,h=>False.elim h
 | .str _,_,h=>False.elim h
 | .ty _,_,h=>False.elim h
 | .tup _,_,h=>False.elim h
 | .ktup _,_,h=>False.elim h
 | .klst _,_,h=>False.elim h
 | .st _,_,h=>False.elim h
 | .ref _,_,h=>False.elim h
theorem zD4 {n:Nat}:∀{S S':Store},DS.keeps n S S'->∀i,i<S.length->∃b,S'[i]?=some b/\(S[i]?=some b\/b.low n=true)
 | [],_,_,i,hi=>by simp at hi
 | a::r,[],h,_,_=>False.elim h
 | a::r,b::t,h,0,_=>⟨b,rfl,by
   rcases h.1 with e|e
   ·subst e;exact .inl rfl
   ·exact .inr e⟩
 | a::r,b::t,h,i+1,hi=>by simpa using zD4 h.2 i (by simpa using hi)
theorem Grow.take (h:AbS K J S H) (g:Grow J H J' H'):J'.take S.length=J:=by
 refine List.ext_getElem? fun i=>?_
 by_cases hi:i<S.length
 ·rw[uZ hi]
  have hj:i<J.length:=by rw[h.len];exact hi
  rw[xC hj]
  exact g.pre i _ (xC hj)
 ·rw[vC (by rw[vS];lia),vC (by rw[h.len];lia)]
theorem Grow.cut (g:Grow J H J' H'):Grow J H J H':=⟨fun _ _ h=>h,fun _ h n=>absurd h n,g.keep,g.dom⟩
theorem AbS.cut (h:AbS K J S H) (g:Grow J H J' H') (h':AbS K J' S' H') (k:DS.keeps S.length S S'):AbS K J (S'.take S.length) H':=by
 have e:=g.take h
 refine⟨?_,h.nd,fun i a d ei q=>?_⟩
 ·have l:∀i,i<S.length->i<S'.length:=fun i hi=>by
   obtain⟨b,eb,_⟩:=zD4 k i hi
   exact(xI.mp eb).1
  rw[h.len,vS]
  by_cases z:S.length=0
  ·lia
  ·have:=l (S.length-1) (by nofun)
   lia
 ·have hi:=h.lt ei
  rw[uZ hi]at q
  obtain⟨b,eb,lo⟩:=zD4 k i hi
  rw[q]at eb;cases eb
  obtain⟨o,eo,r⟩:=h'.ob i a d (g.pre i a ei) q
  have low:d.low S.length=true:=by
   rcases lo with lo|lo
   ·obtain⟨o',_,r'⟩:=h.ob i a d ei lo
    have:=r'.low
    rw[h.len]at this
    exact this
   ·exact lo
  have:=r.cut low
  rw[e]at this
  exact⟨o,eo,this⟩
theorem zQz {d2:D}{S2:Store}(h:AbS K J S H) (g:Grow J H J' H') (h':AbS K J' S' H') (r:Rep K J' H' d v) (e:DS.fin S d S'=.ok d2 S2):∃J2,AbS K J2 S2 H'/\Grow J H J2 H'/\Rep K J2 H' d2 v:=by
 have ek:=g.take h
 unfold DS.fin at e
 by_cases k:DS.keeps S.length S S'
 ·rw[xc k]at e
  by_cases l:d.low S.length=true
  ·rw[xc l]at e
   cases e
   refine⟨J,h.cut g h' k,g.cut,?_⟩
   have:=Rep.cut _ _ _ l r
   rw[ek]at this
   exact this
  ·rw[xf l]at e
   cases d with
   | ref n=>
    obtain⟨a,ea,rfl⟩:=r
    obtain⟨c,ec,o,eo,rc⟩:=h'.at ea
    simp only[ec]at e
    by_cases lc:c.low S.length=true
    ·rw[xc lc]at e
     cases e
     refine⟨J,h.cut g h' k,g.cut,?_⟩
     have ha:a ∉ J:=fun z=>by
      obtain⟨i,ei⟩:=List.mem_iff_getElem?.mp z
      have hi:=h.lt ei
      have e2:=g.pre i a ei
      have:=(List.getElem?_inj (xI.mp e2).1 h'.nd).mp (e2.trans ea.symm)
      subst this
      exact l (xo hi)
     have rc2:=rc.cut lc
     rw[ek]at rc2
     cases d2 with
     | lst ds=>obtain⟨xs,rfl,rl⟩:=rc2;exact⟨a,xs,rfl,⟨eo,ha⟩,rl⟩
     | dct _ ks vs=>obtain⟨xs,t,rl⟩:=rc2;exact⟨a,o,xs,rfl,ha,.inl eo,t,rl⟩
     | _=>exact False.elim rc2
    ·rw[xf lc]at e
     cases e
     exact⟨J',h',g,a,ea,rfl⟩
   | _=>cases e;exact⟨J',h',g,r⟩
 ·rw[xf k]at e
  cases e
  exact⟨J',h',g,r⟩
end
end L2
namespace L2
open PySem PySem.Spec PyProof.Rows
open DS (D Store Exn Rs SR)
noncomputable abbrev XE:=Exn->Store->Js->Hp->Prop
noncomputable def XE0:XE:=fun _ _ _ _=>False
noncomputable def Post {α:Type}(K:PySem.W.Frag) (E:XE) (J:Js) (H:Hp) (r:Rs α) (P:α->Store->Js->Hp->Prop):Prop:=match r with
 | .ok a S=>∀J' H',AbS K J' S H'->Grow J H J' H'->P a S J' H'
 | .ex x S=>∀J' H',AbS K J' S H'->Grow J H J' H'->E x S J' H'
 | .bad=>False
noncomputable def PostS (K:PySem.W.Frag) (E:XE) (J:Js) (H:Hp) (r:SR) (D:Ends):Prop:=match r with
 | .nx e S=>∀J' H' σ,AbS K J' S H'->Grow J H J' H'->RepE K J' H' e σ->D.nx σ H'
 | .rt d S=>∀J' H' v,AbS K J' S H'->Grow J H J' H'->Rep K J' H' d v->D.rt v H'
 | .bk e S=>∀J' H' σ,AbS K J' S H'->Grow J H J' H'->RepE K J' H' e σ->D.bk σ H'
 | .ct e S=>∀J' H' σ,AbS K J' S H'->Grow J H J' H'->RepE K J' H' e σ->D.ct σ H'
 | .ex x S=>∀J' H',AbS K J' S H'->Grow J H J' H'->E x S J' H'
 | .bad=>False
section
variable {α β:Type}{K:PySem.W.Frag}{E:XE}{J J1:Js}{H H1:Hp}{S:Store}
theorem Post.grow {r:Rs α}{P:α->Store->Js->Hp->Prop}(g:Grow J H J1 H1) (h:Post K E J H r P):Post K E J1 H1 r P:=by
 cases r with
 | ok a S=>exact fun J' H' h1 h2=>h J' H' h1 (g.trans h2)
 | ex x S=>exact fun J' H' h1 h2=>h J' H' h1 (g.trans h2)
 | bad=>exact h
theorem Post.bind {r:Rs α}{k:α->Store->Rs β}{P:β->Store->Js->Hp->Prop}(h:Post K E J H (r.bind k) P):Post K E J H r (fun a S J' H'=>Post K E J' H' (k a S) P):=by
 cases r with
 | ok a S=>exact fun J' H' _ g=>Post.grow g h
 | ex x S=>exact h
 | bad=>exact h
theorem Post.imp {r:Rs α}{P P':α->Store->Js->Hp->Prop}(h:Post K E J H r P) (k:∀a S J' H',r=.ok a S->AbS K J' S H'->Grow J H J' H'->P a S J' H'->P' a S J' H'):Post K E J H r P':=by
 cases r with
 | ok a S=>exact fun J' H' h1 h2=>k a S J' H' rfl h1 h2 (h J' H' h1 h2)
 | ex x S=>exact h
 | bad=>exact h
theorem Post.map {r:Rs α}{P P':α->Store->Js->Hp->Prop}(h:Post K E J H r P) (k:∀a S J' H',r=.ok a S->AbS K J' S H'->Grow J H J' H'->(∀J2 H2,AbS K J2 S H2->Grow J H J2 H2->P a S J2 H2)->P' a S J' H'):Post K E J H r P':=by
 cases r with
 | ok a S=>exact fun J' H' h1 h2=>k a S J' H' rfl h1 h2 h
 | ex x S=>exact h
 | bad=>exact h
theorem Post.lift {o:Option α}{P:α->Store->Js->Hp->Prop}(h:Post K E J H (DS.lift o S) P):∃a,o=some a/\∀J' H',AbS K J' S H'->Grow J H J' H'->P a S J' H':=by
 cases o with
 | some a=>exact⟨a,rfl,h⟩
 | none=>exact False.elim h
theorem PostS.grow {r:SR}{D:Ends}(g:Grow J H J1 H1) (h:PostS K E J H r D):PostS K E J1 H1 r D:=by
 cases r with
 | nx e S=>exact fun J' H' σ h1 h2=>h J' H' σ h1 (g.trans h2)
 | bk e S=>exact fun J' H' σ h1 h2=>h J' H' σ h1 (g.trans h2)
 | ct e S=>exact fun J' H' σ h1 h2=>h J' H' σ h1 (g.trans h2)
 | rt e S=>exact fun J' H' σ h1 h2=>h J' H' σ h1 (g.trans h2)
 | ex x S=>exact fun J' H' h1 h2=>h J' H' h1 (g.trans h2)
 | bad=>exact h
theorem PostS.then {r:Rs α}{k:α->Store->SR}{D:Ends}(h:PostS K E J H (r.then k) D):Post K E J H r (fun a S J' H'=>PostS K E J' H' (k a S) D):=by
 cases r with
 | ok a S=>exact fun J' H' _ g=>PostS.grow g h
 | ex x S=>exact h
 | bad=>exact h
end
section
variable (K:PySem.W.Frag) (E:XE)
noncomputable def tOf (m:DS.EM):TE:=fun σ H Q=>∃env S J,AbS K J S H/\RepE K J H env σ/\Post K E J H (m env S) (fun d _ J' H'=>∀v,Rep K J' H' d v->Q v H')
noncomputable def tOfF (m:DS.EM):TE:=fun σ H Q=>∃env S J,AbS K J S H/\RepE K J H env σ/\Post K E J H (m env S) (fun d _ J' H'=>∀p o,H' p=none->ObD K J' H' d o->Q (.ref p) (upd H' p o))
noncomputable def ttOf (m:DS.TM):TT:=fun σ H Q=>∃env S J,AbS K J S H/\RepE K J H env σ/\Post K E J H (m env S) (fun b _ _ H'=>Q b H')
noncomputable def aOf (m:DS.AM):TA:=fun σ H Q=>∃env S J,AbS K J S H/\RepE K J H env σ/\Post K E J H (m env S) (fun ds _ J' H'=>∀vs,RepL K J' H' ds vs->Q vs H')
noncomputable def tsOf (m:DS.SM):TS:=fun D σ H=>∃env S J,AbS K J S H/\RepE K J H env σ/\PostS K E J H (m env S) D
noncomputable def gOf (m:DS.GM):TG:=fun v σ H Q=>∃env S J d env',AbS K J S H/\RepE K J H env σ/\Rep K J H d v/\m S d env=some env'/\∀σ',RepE K J H env' σ'->Q σ' H
noncomputable def gsOf (m:Store->List D->DS.Env->Option DS.Env):TGs:=fun vs σ H Q=>∃env S J ds env',AbS K J S H/\RepE K J H env σ/\RepL K J H ds vs/\m S ds env=some env'/\∀σ',RepE K J H env' σ'->Q σ' H
structure ItOk (J0:Js) (H0:Hp) (w:DS.Walk) (I:It):Prop where
 go:∀(i:Nat) (H:Hp) (J:Js) (S:Store),AbS K J S H->Grow J0 H0 J H->DS.gOk S w.gd->i<w.its.length->I.go i H
 yld:∀(i:Nat) (H:Hp) (J:Js) (S:Store) (x:V) (H':Hp),AbS K J S H->Grow J0 H0 J H->DS.gOk S w.gd->I.yld i H x H'->∀d,w.its[i]?=some d->AbS K J S H'/\Grow J H J H'/\Rep K J H' d x
 stop:∀(i:Nat) (H:Hp) (J:Js) (S:Store),AbS K J S H->Grow J0 H0 J H->DS.gOk S w.gd->w.its.length<=i->I.stop i H
noncomputable def iOf (m:DS.IM):TI:=fun σ H R=>∃env S J,AbS K J S H/\RepE K J H env σ/\Post K E J H (m env S) (fun w _ J' H'=>∀I,ItOk K J' H' w I->R I H')
noncomputable def r2Of (g:Store->D->D->Option D):R2:=fun x y H Q=>∃J S d1 d2 d,AbS K J S H/\Rep K J H d1 x/\Rep K J H d2 y/\g S d1 d2=some d/\∀v H',AbS K J S H'->Grow J H J H'->Rep K J H' d v->Q v H'
noncomputable def r1Of (g:Store->D->Option D):V->Hp->VK->Prop:=fun x H Q=>∃J S d1 d,AbS K J S H/\Rep K J H d1 x/\g S d1=some d/\∀v H',AbS K J S H'->Grow J H J H'->Rep K J H' d v->Q v H'
noncomputable def cOf (g:Store->List D->Option D):List V->Hp->VK->Prop:=fun xs H Q=>∃J S ds d,AbS K J S H/\RepL K J H ds xs/\g S ds=some d/\∀v H',AbS K J S H'->Grow J H J H'->Rep K J H' d v->Q v H'
noncomputable def yA1 (g:Store->D->D->Option D):R2:=fun x y H Q=>∃J S d1 d2 d,AbS K J S H/\Rep K J H d1 x/\Rep K J H d2 y/\g S d1 d2=some d/\∀p o H',AbS K J S H'->Grow J H J H'->H' p=none->ObD K J H' d o->Q (.ref p) (upd H' p o)
noncomputable def mOf (g:Store->D->List D->Option (D × Store)):V->List V->Hp->VK->Prop:=fun x xs H Q=>∃J S d1 ds d S',AbS K J S H/\Rep K J H d1 x/\RepL K J H ds xs/\g S d1 ds=some (d,S')/\∀v H',AbS K J S' H'->Grow J H J H'->Rep K J H' d v->Q v H'
noncomputable def spOf (F:DS.Fn):Sp:=fun vs H Q _=>∃J S ds,AbS K J S H/\RepL K J H ds vs/\Post K E J H (F ds S) (fun d _ J' H'=>∀v,Rep K J' H' d v->Q v H')
end
structure DE (X:Cx) (K:PySem.W.Frag) (E:XE) (e:Expr) (m:DS.EM):Prop where h:SE X e (tOf K E m)
structure DF (X:Cx) (K:PySem.W.Frag) (E:XE) (e:Expr) (m:DS.EM):Prop where h:SE X e (tOfF K E m)
structure DT (X:Cx) (K:PySem.W.Frag) (E:XE) (e:Expr) (m:DS.TM):Prop where h:ST X e (ttOf K E m)
structure DW (X:Cx) (K:PySem.W.Frag) (E:XE) (e:Expr) (m:DS.TM):Prop where h:SW X e (ttOf K E m)
structure DIf (X:Cx) (K:PySem.W.Frag) (E:XE) (es:List Expr) (m:DS.TM):Prop where h:SIfs X es (ttOf K E m)
structure DA (X:Cx) (K:PySem.W.Frag) (E:XE) (es:List Expr) (m:DS.AM):Prop where
 h:SA X es (aOf K E m)
 len:∀env S ds S',m env S=.ok ds S'->ds.length=es.length
structure DS1 (X:Cx) (K:PySem.W.Frag) (E:XE) (st:Stmt) (m:DS.SM):Prop where h:SS X st (tsOf K E m)
structure DSs (X:Cx) (K:PySem.W.Frag) (E:XE) (st:List Stmt) (m:DS.SM):Prop where h:SSs X st (tsOf K E m)
structure DG (X:Cx) (K:PySem.W.Frag) (e:Expr) (m:DS.GM):Prop where h:SG X e (gOf K m)
structure DGs (X:Cx) (K:PySem.W.Frag) (es:List Expr) (m:List DS.GM):Prop where h:SGs X es (gsOf K (DS.gAll m))
structure DI (X:Cx) (K:PySem.W.Frag) (E:XE) (tg e:Expr) (m:DS.IM):Prop where h:SI X tg e (iOf K E m)
section
variable {X:Cx}{K:PySem.W.Frag}{E:XE}{e a b c:Expr}{es:List Expr}{p pos:Pos}{m ma mb mc:DS.EM}{mt mu:DS.TM}
theorem SE.imp {t t':TE}(h:SE X e t) (k:∀σ H Q,t' σ H Q->t σ H Q):SE X e t':=⟨fun pins s σ H Q I q=>h.h pins s σ H Q I (k σ H Q q)⟩
theorem ST.imp {t t':TT}(h:ST X e t) (k:∀σ H Q,t' σ H Q->t σ H Q):ST X e t':=⟨fun pins s σ H Q I q=>h.h pins s σ H Q I (k σ H Q q)⟩
theorem SW.imp {t t':TT}(h:SW X e t) (k:∀σ H Q,t' σ H Q->t σ H Q):SW X e t':=⟨fun whole pins s σ H Q I q=>h.h whole pins s σ H Q I (k σ H Q q)⟩
theorem SIfs.imp {t t':TT}(h:SIfs X es t) (k:∀σ H Q,t' σ H Q->t σ H Q):SIfs X es t':=⟨fun pins s σ H Q I q=>h.h pins s σ H Q I (k σ H Q q)⟩
theorem SA.imp {t t':TA}(h:SA X es t) (k:∀σ H Q,t' σ H Q->t σ H Q):SA X es t':=⟨fun pos pins s σ H Q I q=>h.h pos pins s σ H Q I (k σ H Q q)⟩
theorem SS.imp {st:Stmt}{t t':TS}(h:SS X st t) (k:∀D σ H,t' D σ H->t D σ H):SS X st t':=⟨fun pins s σ H D I q=>h.h pins s σ H D I (k D σ H q)⟩
theorem SSs.imp {st:List Stmt}{t t':TS}(h:SSs X st t) (k:∀D σ H,t' D σ H->t D σ H):SSs X st t':=⟨fun pins s σ H D I q=>h.h pins s σ H D I (k D σ H q)⟩
theorem SG.imp {t t':TG}(h:SG X e t) (k:∀v σ H Q,t' v σ H Q->t v σ H Q):SG X e t':=⟨fun pins s σ H v u Q I r q=>h.h pins s σ H v u Q I r (k v σ H Q q)⟩
theorem SGs.imp {t t':TGs}(h:SGs X es t) (k:∀v σ H Q,t' v σ H Q->t v σ H Q):SGs X es t':=⟨fun pins s σ H v u Q I r q=>h.h pins s σ H v u Q I r (k v σ H Q q)⟩
theorem SI.imp {tg:Expr}{t t':TI}(h:SI X tg e t) (k:∀σ H R,t' σ H R->t σ H R):SI X tg e t':=⟨fun pins s σ H R I q=>h.h pins s σ H R I (k σ H R q)⟩
theorem ObD.rep {K:PySem.W.Frag}{J:Js}{S:Store}{H:Hp}{d:D}{o:HO}{p:Addr}(ha:AbS K J S H) (n:H p=none) (r:ObD K J H d o):Rep K J (upd H p o) d (.ref p):=by
 have r2:=r.grow (Grow.push (o:=o) n)
 have hp:=ha.out n
 cases d with
 | lst ds=>obtain⟨xs,rfl,rl⟩:=r2;exact⟨p,xs,rfl,⟨zA5,hp⟩,rl⟩
 | dct _ ks vs=>obtain⟨xs,t,rl⟩:=r2;exact⟨p,o,xs,rfl,hp,.inl zA5,t,rl⟩
 | _=>exact False.elim r2
theorem yB5 (h:DF X K E e m):DE X K E e m:=⟨h.h.imp fun σ H Q ⟨env,S,J,ha,he,q⟩=>⟨env,S,J,ha,he,q.map fun d S' J' H' _ h1 g k p o n r=>
 k J' (upd H' p o) (h1.push n) (g.trans (.push n)) (.ref p) (r.rep h1 n)⟩⟩
theorem zZ9 (h:DF X K E e m):DE X K E e (DS.eNew m):=⟨h.h.imp fun σ H Q ⟨env,S,J,ha,he,q⟩=>⟨env,S,J,ha,he,q.bind.map fun d S' J' H' _ h1 g k p o n r=>
 k J' H' h1 g (J'++[p]) (upd H' p o) (h1.name n r) (.name n) (.ref p) ⟨p,by rw[<- h1.len,vA (xh _)];simp,rfl⟩⟩⟩
theorem zZ3 (i:Nat) {x:Str}(hN:X.N[i]?=some x:=by rfl) (hv:Vis X.env.scope x:=by first|exact Or.inl rfl|exact Or.inr (Or.inl rfl)|exact Or.inr (Or.inr rfl)) (hd:(x == ("__debug__":Str))=false:=by decide)
  (hcd:(x == ("__classdict__":Str))=false:=by decide):DE X K E (.Name x pos) (DS.eVar i):=⟨(pv' i hN hv hd hcd).imp fun σ H Q hq2=>by
 obtain⟨env,S,J,ha,he,q⟩:=hq2
 unfold DS.eVar at q
 cases e1:env[i]? with
 | none=>rw[e1]at q;exact False.elim q
 | some o=>
  cases o with
  | none=>rw[e1]at q;exact False.elim q
  | some d=>
   rw[e1]at q
   obtain⟨v,ev,r⟩:=he.get i d e1
   exact⟨v,ev,q J H ha .refl v r⟩⟩
theorem de_c {v:V}{d:D}(h:SE X e (tC v)) (r:∀J H,Rep K J H d v):DE X K E e (DS.eC d):=⟨h.imp fun σ H Q hz5=>by obtain⟨env,S,J,ha,he,q⟩:=hz5;exact q J H ha .refl v (r J H)⟩
theorem zR7 {i:Int}{j:_}:DE X K E (.Constant (.int i) j pos) (DS.eC (.int i)):=de_c zSr fun _ _=>rfl
theorem yBb {i:Bool}{j:_}:DE X K E (.Constant (.bool i) j pos) (DS.eC (.bl i)):=de_c zX2 fun _ _=>rfl
theorem zZ8 {j:_}:DE X K E (.Constant .none j pos) (DS.eC .non):=de_c zSp fun _ _=>rfl
theorem zZ6 {i:Str}{j:_}:DE X K E (.Constant (.str i) j pos) (DS.eC (.str i)):=de_c zL0 fun _ _=>rfl
theorem two_of {r:R2}{g:Store->D->D->Option D}(hr:∀x y H Q,r2Of K g x y H Q->r x y H Q):∀σ H Q,tOf K E (DS.eOp g ma mb) σ H Q->tOp r (tOf K E ma) (tOf K E mb) σ H Q:=fun σ H Q ⟨env,S,J,ha,he,q⟩=>
 ⟨env,S,J,ha,he,q.bind.imp fun d1 S1 J1 H1 _ a1 g1 q1 x rx=>⟨env,S1,J1,a1,he.grow g1,q1.bind.imp fun d2 S2 J2 H2 _ a2 g2 q2 y ry=>by
  obtain⟨d,e,k⟩:=q2.lift
  exact hr _ _ _ _ ⟨J2,S2,d1,d2,d,a2,Rep.grow g2 _ _ rx,ry,e,fun v H' h1 h2 h3=>k J2 H' h1 h2 v h3⟩⟩⟩
theorem yB4 {op:Operator}{g:Store->D->D->Option D}(ho:OpR X (binaryOp op) (r2Of K g)) (ha:DE X K E a ma) (hb:DE X K E b mb):DE X K E (.BinOp a op b pos) (DS.eOp g ma mb):=⟨(zWt ho ha.h hb.h).imp (two_of fun _ _ _ _ h=>h)⟩
theorem zZc {op:CmpOp}{g:Store->D->D->Option D}(ho:OpR X (compareOp op) (r2Of K g)) (ha:DE X K E a ma) (hb:DE X K E b mb) (hm:behindInMarks op b=false):DE X K E (.Compare a [op] [b] pos) (DS.eOp g ma mb):=⟨(zOm ho ha.h hb.h hm).imp (two_of fun _ _ _ _ h=>h)⟩
theorem yB7 {g:Store->D->D->Option D}(hr:IxR X (r2Of K g)) (ha:DE X K E a ma) (hb:DE X K E b mb) (h:nsl b=true:=by rfl):DE X K E (.Subscript a b pos) (DS.eOp g ma mb):=⟨(qix' hr ha.h hb.h h).imp (two_of fun _ _ _ _ h=>h)⟩
theorem zZ4 {op:UnaryOp}{g:Store->D->Option D}(ho:UnR X (unaryOp op) (r1Of K g)) (ha:DE X K E a ma):DE X K E (.UnaryOp op a pos) (DS.eUn g ma):=⟨(zWp ho ha.h).imp fun σ H Q ⟨env,S,J,h,he,q⟩=>
 ⟨env,S,J,h,he,q.bind.imp fun d1 S1 J1 H1 _ a1 g1 q1 x rx=>by
  obtain⟨d,e,k⟩:=q1.lift
  exact⟨J1,S1,d1,d,a1,rx,e,fun v H' h1 h2 h3=>k J1 H' h1 h2 v h3⟩⟩⟩
theorem zZe:DA X K E [] DS.aNil:=⟨pa_nil'.imp fun σ H Q hz6=>by obtain⟨env,S,J,ha,he,q⟩:=hz6;exact q J H ha .refl [] rfl,fun _ _ _ _ e=>by cases e;rfl⟩
theorem zUw {am:DS.AM}(ha:DE X K E e m) (hr:DA X K E es am) (h:nst e=true:=by rfl):DA X K E (e::es) (DS.zA0 m am):=by
 refine⟨(qa' ha.h hr.h h).imp fun σ H Q ⟨env,S,J,h,he,q⟩=>⟨env,S,J,h,he,q.bind.imp fun d1 S1 J1 H1 _ a1 g1 q1 x rx=>⟨env,S1,J1,a1,he.grow g1,q1.bind.imp fun d2 S2 J2 H2 _ a2 g2 q2 ys ry=>
  q2 J2 H2 a2 .refl (x::ys) ⟨x,ys,rfl,Rep.grow g2 _ _ rx,ry⟩⟩⟩,fun env S ds S' e1=>?_⟩
 unfold DS.zA0 at e1
 cases e2:m env S with
 | ok d S1=>
  rw[e2,Rs.bind_ok]at e1
  cases e3:am env S1 with
  | ok dr S2=>rw[e3,Rs.bind_ok]at e1;cases e1;simp[hr.len _ _ _ _ e3]
  | _=>rw[e3]at e1;cases e1
 | _=>rw[e2]at e1;cases e1
theorem z1000 {n:Nat}(h:n<=1000):n<=sizeLine:=xp h (by decide)
theorem zZ5 {am:DS.AM}{k:Nat}(h:DA X K E es am) (hz:es.length<=1000:=by decide):DE X K E (.Tuple es k pos) (DS.eTup am):=⟨(zKz h.h).imp fun σ H Q ⟨env,S,J,ha,he,q⟩=>
 ⟨env,S,J,ha,he,q.bind.imp fun ds S1 J1 H1 e1 a1 g1 q1 xs rx=>⟨by rw[<- rx.length,h.len _ _ _ _ e1];exact z1000 hz,fun p n=>
  q1 J1 (upd H1 p (.tup xs)) (a1.push n) (.push n) (.ref p) ⟨p,xs,rfl,⟨zA5,a1.out n⟩,RepL.grow (.push n) _ _ rx⟩⟩⟩⟩
theorem zZ2 {am:DS.AM}(h:DA X K E es am) (hz:es.length<=1000:=by decide):DF X K E (.List es pos) (DS.eLst am):=⟨(zSq h.h).imp fun σ H Q ⟨env,S,J,ha,he,q⟩=>
 ⟨env,S,J,ha,he,q.bind.imp fun ds S1 J1 H1 e1 a1 g1 q1 xs rx=>⟨by rw[<- rx.length,h.len _ _ _ _ e1];exact z1000 hz,fun p n=>
  q1 J1 H1 a1 .refl p (.lst xs) n ⟨xs,rfl,rx⟩⟩⟩⟩
theorem zZj {r:List V->Hp->VK->Prop}{am:DS.AM}{g:Store->List D->Option D}(hr:∀xs H Q,cOf K g xs H Q->r xs H Q):∀σ H Q,tOf K E (DS.eCB g am) σ H Q->tCB r (aOf K E am) σ H Q:=fun σ H Q ⟨env,S,J,ha,he,q⟩=>
 ⟨env,S,J,ha,he,q.bind.imp fun ds S1 J1 H1 _ a1 g1 q1 xs rx=>by
  obtain⟨d,e,k⟩:=q1.lift
  exact hr _ _ _ ⟨J1,S1,ds,d,a1,rx,e,fun v H' h1 h2 h3=>k J1 H' h1 h2 v h3⟩⟩
theorem yBa {x:Str}{id:String}{am:DS.AM}{g:Store->List D->Option D}(hc:zAu X (.builtin id) (cOf K g)) (hg:Gl X x) (hm:X.mg x=none) (hv:bootBuiltins x=some (.builtin id)) (ha:DA X K E (e::es) am) (hn:x≠"__name__":=by decide) (hdb:(x == ("__debug__":Str))=false:=by decide)
  (h:(e::es).all nst=true:=by rfl):DE X K E (.Call (.Name x p) (e::es) [] pos) (DS.eCB g am):=⟨(zGh hc hg hm hv ha.h hn hdb h).imp (zZj fun _ _ _ h=>h)⟩
theorem yB9 {x:Str}{T:String}{am:DS.AM}{g:Store->List D->Option D}(hc:zAu X (.type T) (cOf K g)) (hg:Gl X x) (hm:X.mg x=none) (hv:bootBuiltins x=some (.type T)) (ha:DA X K E (e::es) am) (hn:x≠"__name__":=by decide) (hdb:(x == ("__debug__":Str))=false:=by decide)
  (h:(e::es).all nst=true:=by rfl):DE X K E (.Call (.Name x p) (e::es) [] pos) (DS.eCB g am):=⟨(zS5 hc hg hm hv ha.h hn hdb h).imp (zZj fun _ _ _ h=>h)⟩
theorem zUv {x:Str}{k:Nat}{ps:List Str}{F:DS.Fn}{am:DS.AM}(C:Cal X.prog X.w X.K X.mg X.base x k ps (spOf K E F)) (hr:Room k X.A) (hg:Gl X x) (ha:DA X K E (e::es) am) (hdb:(x == ("__debug__":Str))=false:=by decide)
  (h:(e::es).all nst=true:=by rfl):DE X K E (.Call (.Name x p) (e::es) [] pos) (DS.zA8 F am):=⟨(qcal' C hr hg ha.h hdb h).imp fun σ H Q ⟨env,S,J,h,he,q⟩=>
 ⟨env,S,J,h,he,q.bind.imp fun ds S1 J1 H1 _ a1 g1 q1 xs rx=>by
  show spOf K E F (xs++[]) H1 Q E0
  rw[vh]
  exact⟨J1,S1,ds,a1,rx,q1⟩⟩⟩
theorem zVk {J:Js}{S:Store}{H:Hp}{d:D}{v:V}{T:String}(ha:AbS K J S H) (r:Rep K J H d v) (hT:T="str"\/T="list"\/T="dict") (h:DS.tyD S d=some T):tyV K T v H:=by
 cases d with
 | str x=>obtain rfl:=r;cases h;exact rfl
 | lst ds=>obtain⟨a,xs,rfl,t,_⟩:=r;cases h;exact .inl ⟨rfl,xs,t.sq⟩
 | klst ds=>obtain⟨a,xs,rfl,t,_⟩:=r;cases h;exact .inl ⟨rfl,xs,t.sq⟩
 | dct _ ks vs=>
  obtain⟨a,o,xs,rfl,_,e,t,_⟩:=r;cases h
  refine .inr (.inr (.inl ⟨rfl,?_⟩))
  rcases t with⟨_,kvs,rfl,_⟩|⟨_,kvs,rfl,_⟩
  ·exact .inl ⟨kvs,e⟩
  ·exact .inr ⟨kvs,e⟩
 | ref n=>
  obtain⟨a,ea,rfl⟩:=r
  obtain⟨c,ec,o,eo,rc⟩:=ha.at ea
  have el:DS.look S (.ref n)=some c:=ec
  unfold DS.tyD at h
  rw[el]at h
  cases c with
  | lst ds=>cases h;obtain⟨xs,rfl,_⟩:=rc;exact .inl ⟨rfl,xs,.inl (.inl eo)⟩
  | dct _ ks vs=>
   cases h
   obtain⟨xs,t,_⟩:=rc
   refine .inr (.inr (.inl ⟨rfl,?_⟩))
   rcases t with⟨_,kvs,rfl,_⟩|⟨_,kvs,rfl,_⟩
   ·exact .inl ⟨kvs,.inl eo⟩
   ·exact .inr ⟨kvs,.inl eo⟩
  | _=>exact False.elim rc
 | _=>first|(cases h;rcases hT with z|z|z <;> exact absurd z (by decide))|cases h
theorem zXk {T:String}{r:V->List V->Hp->VK->Prop}{am:DS.AM}{g:Store->D->List D->Option (D × Store)}(hT:T="str"\/T="list"\/T="dict") (hr:∀x xs H Q,mOf K g x xs H Q->r x xs H Q):∀σ H Q,tOf K E (DS.eMt T g ma am) σ H Q->tBM K T r (tOf K E ma) (aOf K E am) σ H Q:=fun σ H Q ⟨env,S,J,ha,he,q⟩=>
 ⟨env,S,J,ha,he,q.bind.imp fun d1 S1 J1 H1 _ a1 g1 q1 x rx=>by
  by_cases hty:DS.tyD S1 d1=some T
  ·rw[xc hty]at q1
   refine⟨zVk a1 rx hT hty,env,S1,J1,a1,he.grow g1,q1.bind.imp fun ds S2 J2 H2 _ a2 g2 q2 xs rs=>?_⟩
   cases e:g S2 d1 ds with
   | none=>rw[e]at q2;exact False.elim q2
   | some w=>
    rw[e]at q2
    exact hr _ _ _ _ ⟨J2,S2,d1,ds,w.1,w.2,a2,Rep.grow g2 _ _ rx,rs,e,fun v H' h1 h2 h3=>q2 J2 H' h1 h2 v h3⟩
  ·rw[xf hty]at q1;exact False.elim q1⟩
theorem yB6 {T name id:_}{o:Expr}{apos cpos:Pos}{g:Store->D->List D->Option (D × Store)}{mo:DS.EM}{am:DS.AM}(pa:PlainAttrs T) (slot:Slot T name id) (hty:typeOf (.builtin id)=pure (.type "method_descriptor")) (hm:MtR X id (mOf K g))
  (hT:T="str"\/T="list"\/T="dict") (ho:DE X K E o mo) (ha:DA X K E (e::es) am) (h:nba o=true:=by rfl) (hs:(e::es).all nst=true:=by rfl)
  (hlen:decide ((e::es).length+0+0<30)=true:=by rfl) (hline:(apos.endLine == cpos.line)=true:=by rfl) (hK:X.K=K:=by rfl):DE X K E (.Call (.Attribute o name apos) (e::es) [] cpos) (DS.eMt T g mo am):=by
 subst hK
 exact⟨(zX1 pa slot hty hm ho.h ha.h h hs hlen hline).imp (zXk hT fun _ _ _ _ h=>h)⟩
theorem zZa {T name id:_}{o:Expr}{apos cpos:Pos}{g:Store->D->List D->Option (D × Store)}{mo:DS.EM}(pa:PlainAttrs T) (slot:Slot T name id) (hty:typeOf (.builtin id)=pure (.type "method_descriptor")) (hm:MtR X id (mOf K g))
  (hT:T="str"\/T="list"\/T="dict") (ho:DE X K E o mo) (h:nba o=true:=by rfl) (hline:(apos.endLine == cpos.line)=true:=by rfl) (hK:X.K=K:=by rfl):DE X K E (.Call (.Attribute o name apos) [] [] cpos) (DS.eMt T g mo DS.aNil):=by
 subst hK
 refine⟨(qbm0' pa slot hty hm ho.h h hline).imp fun σ H Q h=>?_⟩
 obtain⟨env,S,J,ha,he,q⟩:=zXk hT (fun _ _ _ _ h=>h) σ H Q h
 refine⟨env,S,J,ha,he,q.imp fun d1 S1 J1 H1 _ a1 g1 q1 x rx=>?_⟩
 obtain⟨ht,env',S',J',ha',he',q'⟩:=q1 x rx
 exact⟨ht,q' J' H1 ha' .refl [] rfl⟩
noncomputable def poOf (K:PySem.W.Frag) (E:XE) (m:DS.Env->Store->Rs (Option Int)):TO:=fun σ H Q=>∃env S J,AbS K J S H/\RepE K J H env σ/\Post K E J H (m env S) (fun oi _ _ H'=>Q oi H')
structure DO (X:Cx) (K:PySem.W.Frag) (E:XE) (e:Option Expr) (m:DS.Env->Store->Rs (Option Int)):Prop where h:SO X e (poOf K E m)
theorem SO.imp {o:Option Expr}{t t':TO}(h:SO X o t) (k:∀σ H Q,t' σ H Q->t σ H Q):SO X o t':=⟨fun pins s σ H Q I q=>h.h pins s σ H Q I (k σ H Q q)⟩
theorem yB1:DO X K E none DS.pNo:=⟨po_none'.imp fun σ H Q hz7=>by obtain⟨env,S,J,ha,he,q⟩:=hz7;exact q J H ha .refl⟩
theorem zYw (h:DE X K E e m):DO X K E (some e) (DS.pYes m):=⟨(zOa h.h).imp fun σ H Q ⟨env,S,J,ha,he,q⟩=>⟨env,S,J,ha,he,q.bind.imp fun d S1 J1 H1 _ a1 g1 q1 x rx=>by
 obtain⟨oi,e,k⟩:=q1.lift
 cases d with
 | int i=>cases e;obtain rfl:=rx;exact⟨i,rfl,k J1 H1 a1 .refl⟩
 | _=>cases e⟩⟩
noncomputable def slOf (K:PySem.W.Frag) (g:Store->D->Option Int->Option Int->Option D):V->Option Int->Option Int->Hp->VK->Prop:=fun x lo hi H Q=>∃J S d1 d,AbS K J S H/\Rep K J H d1 x/\g S d1 lo hi=some d/\∀v H',AbS K J S H'->Grow J H J H'->Rep K J H' d v->Q v H'
theorem yB2 {g:Store->D->Option Int->Option Int->Option D}{lo hi:Option Expr}{ml mh:DS.Env->Store->Rs (Option Int)}{p2:Pos}(hr:SlR X (slOf K g)) (he:DE X K E e m) (hl:DO X K E lo ml) (hu:DO X K E hi mh):DE X K E (.Subscript e (.Slice lo hi none p2) pos) (DS.eSl g m ml mh):=
 ⟨(zL1 hr he.h hl.h hu.h).imp fun σ H Q ⟨env,S,J,ha,he,q⟩=>⟨env,S,J,ha,he,q.bind.imp fun d S1 J1 H1 _ a1 g1 q1 x rx=>⟨env,S1,J1,a1,he.grow g1,q1.bind.imp fun l S2 J2 H2 _ a2 g2 q2=>
  ⟨env,S2,J2,a2,he.grow (g1.trans g2),q2.bind.imp fun h S3 J3 H3 _ a3 g3 q3=>by
   obtain⟨r,er,k⟩:=q3.lift
   exact⟨J3,S3,d,r,a3,Rep.grow (g2.trans g3) _ _ rx,er,fun v H' h1 h2 h3=>k J3 H' h1 h2 v h3⟩⟩⟩⟩⟩
theorem zIq {J:Js}{H:Hp}{d:D}{x:V}{k:Bool}(e:DS.asB d=some k) (r:Rep K J H d x):x=.bl k:=by
 cases d with
 | bl i=>cases e;exact r
 | _=>cases e
theorem zVn:∀σ H Q,ttOf K E (DS.tB m) σ H Q->tOf K E m σ H (fun x H'=>∃k,x=.bl k/\Q k H'):=fun σ H Q ⟨env,S,J,ha,he,q⟩=>⟨env,S,J,ha,he,q.bind.imp fun d S1 J1 H1 _ a1 g1 q1 x rx=>by
 obtain⟨k,e,z⟩:=q1.lift
 exact⟨k,zIq e rx,z J1 H1 a1 .refl⟩⟩
theorem zYu {op:CmpOp}{g:Store->D->D->Option D}(ho:OpR X (compareOp op) (r2Of K g)) (ha:DE X K E a ma) (hb:DE X K E b mb) (hm:behindInMarks op b=false):DT X K E (.Compare a [op] [b] pos) (DS.tB (DS.eOp g ma mb)):=
 ⟨(zO4 ho ha.h hb.h hm).imp fun σ H Q h=>two_of (fun _ _ _ _ h=>h) σ H _ (zVn σ H Q h)⟩
theorem zIj {g g':Store->D->D->Option D}:∀σ H Q,tOf K E (DS.zAy g g' ma mb mc) σ H Q->zF9 (r2Of K g) (r2Of K g') (tOf K E ma) (tOf K E mb) (tOf K E mc) σ H Q:=fun σ H Q ⟨env,S,J,ha,he,q⟩=>
 ⟨env,S,J,ha,he,q.bind.imp fun d1 S1 J1 H1 _ a1 g1 q1 x rx=>⟨env,S1,J1,a1,he.grow g1,q1.bind.imp fun d2 S2 J2 H2 _ a2 g2 q2 y ry=>by
  obtain⟨z,ez,k⟩:=q2.bind.lift
  refine⟨J2,S2,d1,d2,z,a2,Rep.grow g2 _ _ rx,ry,ez,fun v H3 a3 g3 rv=>?_⟩
  obtain⟨b,eb,k2⟩:=(k J2 H3 a3 g3).bind.lift
  refine⟨b,zIq eb rv,?_⟩
  have k3:=k2 J2 H3 a3 .refl
  cases b with
  | false=>exact k3 J2 H3 a3 .refl _ rfl
  | true=>
   refine⟨env,S2,J2,a3,he.grow (g1.trans (g2.trans g3)),k3.bind.imp fun d4 S4 J4 H4 _ a4 g4 q4 w rw=>?_⟩
   obtain⟨d,e,k⟩:=q4.lift
   exact⟨J4,S4,d2,d4,d,a4,Rep.grow (g3.trans g4) _ _ ry,rw,e,fun v H' h1 h2 h3=>k J4 H' h1 h2 v h3⟩⟩⟩
theorem zPm {op op':CmpOp}{g g':Store->D->D->Option D}(ho:OpR X (compareOp op) (r2Of K g)) (ho':OpR X (compareOp op') (r2Of K g')) (ha:DE X K E a ma) (hb:DE X K E b mb) (hc:DE X K E c mc) (hm:lastMarks [op,op'] [b,c]=false:=by with_unfolding_all rfl):
  DT X K E (.Compare a [op,op'] [b,c] pos) (DS.tB (DS.zAy g g' ma mb mc)):=⟨(zKq ho ho' ha.h hb.h hc.h hm).imp fun σ H Q h=>zIj σ H _ (zVn σ H Q h)⟩
theorem zPx {op op':CmpOp}{g g':Store->D->D->Option D}(ho:OpR X (compareOp op) (r2Of K g)) (ho':OpR X (compareOp op') (r2Of K g')) (ha:DE X K E a ma) (hb:DE X K E b mb) (hc:DE X K E c mc) (hm:lastMarks [op,op'] [b,c]=false:=by with_unfolding_all rfl):
  DE X K E (.Compare a [op,op'] [b,c] pos) (DS.zAy g g' ma mb mc):=⟨(zL3 ho ho' ha.h hb.h hc.h hm).imp zIj⟩
theorem zYt (ha:DT X K E a mt):DT X K E (.UnaryOp .Not a pos) (DS.tNot mt):=⟨(zSb ha.h).imp fun σ H Q hz8=>by obtain⟨env,S,J,ha,he,q⟩:=hz8;exact ⟨env,S,J,ha,he,q.bind.imp fun k S1 J1 H1 _ a1 g1 q1=>q1 J1 H1 a1 .refl⟩⟩
theorem zU6 (ha:DT X K E a mt):DW X K E (.BoolOp .And [a] pos) mt:=⟨zO1 ha.h⟩
theorem zYi (ha:DT X K E a mt):DW X K E (.BoolOp .Or [a] pos) mt:=⟨zS7 ha.h⟩
theorem zYj (ha:DT X K E a mt) (hb:DW X K E (.BoolOp .And (b::es) pos) mu):DW X K E (.BoolOp .And (a::b::es) pos) (DS.tAnd mt mu):=⟨(zS9 ha.h hb.h).imp fun σ H Q ⟨env,S,J,ha,he,q⟩=>⟨env,S,J,ha,he,q.bind.imp fun k S1 J1 H1 _ a1 g1 q1=>by
 cases k with
 | true=>exact⟨env,S1,J1,a1,he.grow g1,q1⟩
 | false=>exact q1 J1 H1 a1 .refl⟩⟩
theorem yAx (ha:DT X K E a mt) (hb:DW X K E (.BoolOp .Or (b::es) pos) mu):DW X K E (.BoolOp .Or (a::b::es) pos) (DS.tOr mt mu):=⟨(zWa ha.h hb.h).imp fun σ H Q ⟨env,S,J,ha,he,q⟩=>⟨env,S,J,ha,he,q.bind.imp fun k S1 J1 H1 _ a1 g1 q1=>by
 cases k with
 | true=>exact q1 J1 H1 a1 .refl
 | false=>exact⟨env,S1,J1,a1,he.grow g1,q1⟩⟩⟩
theorem dt_w (h:DW X K E e mt):DT X K E e mt:=⟨zW8 h.h⟩
theorem zZd (ha:DE X K E a ma) (hb:DE X K E (.BoolOp .And (b::es) pos) mb):DE X K E (.BoolOp .And (a::b::es) pos) (DS.eAnd ma mb):=⟨(zSx ha.h hb.h).imp fun σ H Q ⟨env,S,J,ha,he,q⟩=>⟨env,S,J,ha,he,q.bind.imp fun d S1 J1 H1 _ a1 g1 q1 x rx=>by
 obtain⟨k,e,z⟩:=q1.bind.lift
 have z:=z J1 H1 a1 .refl
 refine⟨k,zIq e rx,?_⟩
 cases k with
 | true=>exact⟨env,S1,J1,a1,he.grow g1,z⟩
 | false=>exact z J1 H1 a1 .refl _ rfl⟩⟩
theorem yB3 (ha:DE X K E a ma) (hb:DE X K E (.BoolOp .Or (b::es) pos) mb):DE X K E (.BoolOp .Or (a::b::es) pos) (DS.eOr ma mb):=⟨(zWs ha.h hb.h).imp fun σ H Q ⟨env,S,J,ha,he,q⟩=>⟨env,S,J,ha,he,q.bind.imp fun d S1 J1 H1 _ a1 g1 q1 x rx=>by
 obtain⟨k,e,z⟩:=q1.bind.lift
 have z:=z J1 H1 a1 .refl
 refine⟨k,zIq e rx,?_⟩
 cases k with
 | true=>exact z J1 H1 a1 .refl _ rfl
 | false=>exact⟨env,S1,J1,a1,he.grow g1,z⟩⟩⟩
theorem zZ7 {op:BoolOp}(ha:DE X K E a ma):DE X K E (.BoolOp op [a] pos) ma:=⟨zSo ha.h⟩
theorem yB8 (hc:DT X K E c mt) (ha:DE X K E a ma) (hb:DE X K E b mb):DE X K E (.IfExp c a b pos) (DS.eIf mt ma mb):=⟨(zL2 hc.h ha.h hb.h).imp fun σ H Q ⟨env,S,J,ha,he,q⟩=>⟨env,S,J,ha,he,q.bind.imp fun k S1 J1 H1 _ a1 g1 q1=>by
 cases k with
 | true=>exact⟨env,S1,J1,a1,he.grow g1,q1⟩
 | false=>exact⟨env,S1,J1,a1,he.grow g1,q1⟩⟩⟩
theorem zUm:DIf X K E [] DS.tYes:=⟨pifs_nil'.imp fun σ H Q hz9=>by obtain⟨env,S,J,ha,he,q⟩:=hz9;exact q J H ha .refl⟩
theorem zUl (h:DT X K E c mt):DIf X K E [c] mt:=⟨zKv h.h⟩
theorem zB2 {J:Js}{H:Hp}{ds:List D}{xs:List V}(r:RepL K J H ds xs):decide (ds≠[])=!xs.isEmpty:=by
 cases ds with
 | nil=>cases r;simp
 | cons d ds=>obtain⟨x,t,rfl,_⟩:=r;simp
theorem zRk {J:Js}{S:Store}{H:Hp}{d:D}{v:V}{k:Bool}(ha:AbS K J S H) (r:Rep K J H d v) (h:DS.truth S d=some k):TruV K v H k:=by
 cases d with
 | non=>obtain rfl:=r;cases h;exact rfl
 | bl b=>obtain rfl:=r;cases h;exact rfl
 | int i=>
  obtain rfl:=r
  have h:=xD h
  subst h
  show decide (i≠0)=(i != 0)
  by_cases z:i=0 <;> simp[z]
 | str x=>
  obtain rfl:=r
  have h:(if x.length<=DS.most then some (decide (x.length≠0))else none)=some k:=h
  by_cases z:x.length<=DS.most
  ·rw[xc z]at h
   have h:=xD h
   subst h
   refine⟨z,?_⟩
   by_cases z:x.length=0 <;> simp[z]
  ·rw[xf z]at h;cases h
 | tup ds=>obtain⟨a,xs,rfl,t,rl⟩:=r;cases h;exact .inr (.inl ⟨xs,t.sq,zB2 rl⟩)
 | ktup ds=>obtain⟨a,xs,rfl,t,rl⟩:=r;cases h;exact .inr (.inl ⟨xs,t.sq,zB2 rl⟩)
 | klst ds=>obtain⟨a,xs,rfl,t,rl⟩:=r;cases h;exact .inl ⟨xs,t.sq,zB2 rl⟩
 | lst ds=>obtain⟨a,xs,rfl,t,rl⟩:=r;cases h;exact .inl ⟨xs,t.sq,zB2 rl⟩
 | ref n=>
  obtain⟨a,ea,rfl⟩:=r
  obtain⟨c,ec,o,eo,rc⟩:=ha.at ea
  have el:DS.look S (.ref n)=some c:=ec
  unfold DS.truth at h
  rw[el]at h
  cases c with
  | lst ds=>cases h;obtain⟨xs,rfl,rl⟩:=rc;exact .inl ⟨xs,.inl (.inl eo),zB2 rl⟩
  | dct _ ks vs=>cases h
  | _=>exact False.elim rc
 | _=>cases h
theorem zYr (ha:DE X K E e m) (h:ntt e=true:=by rfl) (hK:X.K=K:=by rfl):DT X K E e (DS.tTru m):=by
 subst hK
 exact⟨(qtruth' ha.h h).imp fun σ H Q ⟨env,S,J,ha,he,q⟩=>⟨env,S,J,ha,he,q.bind.imp fun d S1 J1 H1 _ a1 g1 q1 x rx=>by
  obtain⟨k,e,z⟩:=q1.lift
  exact⟨k,zRk a1 rx e,z J1 H1 a1 .refl⟩⟩⟩
theorem RepE.set {J:Js}{H:Hp}{env:DS.Env}{σ:St}{d:D}{v:V}{i:Nat}(h:RepE K J H env σ) (r:Rep K J H d v):RepE K J H (env.set i (some d)) (σ.set i (some v)):=by
 refine⟨by simp[h.len],fun j d' e=>?_⟩
 by_cases hj:i=j
 ·subst hj
  have hi:i<env.length:=by
   have:=(xI.mp e).1
   simpa using this
  rw[xY hi]at e
  cases e
  exact⟨v,xY (by rw[<- h.len];exact hi),r⟩
 ·rw[xF hj]at e
  rw[xF hj]
  exact h.get j d' e
theorem zUp {j:Nat}{x:Str}(hN:X.N.Nodup) (hi:X.N[j]?=some x) (hx:Loc X.env.scope x) (hf:X.fn x=true\/X.env.scope.names.lookup x=some .local:=by first|exact .inl rfl|exact .inr rfl|assumption):DG X K (.Name x pos) (DS.gName j):=
 ⟨(zOh hN hi hx hf).imp fun v σ H Q hq3=>by
  obtain⟨env,S,J,d,env',ha,he,r,e,k⟩:=hq3
  cases e
  exact k _ (he.set r)⟩
theorem zUn:DGs X K [] []:=⟨pgs_nil'.imp fun v σ H Q hq4=>by
 obtain⟨env,S,J,ds,env',ha,he,r,e,k⟩:=hq4
 cases ds with
 | nil=>cases e;cases r;exact⟨rfl,k _ he⟩
 | cons d ds=>cases e⟩
theorem zPu {tg:Expr}{ts:List Expr}{g:DS.GM}{gs:List DS.GM}(h1:DG X K tg g) (h2:DGs X K ts gs) (h:nst tg=true:=by rfl):DGs X K (tg::ts) (g::gs):=⟨(qgs' h1.h h2.h h).imp fun v σ H Q hq5=>by
 obtain⟨env,S,J,ds,env',ha,he,r,e,k⟩:=hq5
 cases ds with
 | nil=>cases e
 | cons d ds=>
  obtain⟨x,xs,rfl,rx,rl⟩:=r
  unfold DS.gAll at e
  cases e1:g S d env with
  | none=>rw[e1]at e;cases e
  | some env1=>
   rw[e1]at e
   exact⟨x,xs,rfl,env,S,J,d,env1,ha,he,rx,e1,fun σ' he'=>⟨env1,S,J,ds,env',ha,he',rl,e,k⟩⟩⟩
theorem zBt:∀{gs:List DS.GM}{S:Store}{ds:List D}{env env':DS.Env},DS.gAll gs S ds env=some env'->ds.length=gs.length
 | [],_,[],_,_,_=>rfl
 | [],_,_::_,_,_,e=>by cases e
 | _::_,_,[],_,_,e=>by cases e
 | g::gs,S,d::ds,env,env',e=>by
  unfold DS.gAll at e
  cases e1:g S d env with
  | none=>rw[e1]at e;cases e
  | some env1=>rw[e1]at e;simp[zBt e]
theorem SG.or {t u:TG}(h:SG X e t) (h':SG X e u):SG X e (fun v σ H Q=>t v σ H Q\/u v σ H Q):=⟨fun pins s σ H v w Q I r q=>by
 rcases q with q|q
 ·exact h.h pins s σ H v w Q I r q
 ·exact h'.h pins s σ H v w Q I r q⟩
theorem zZ0 {ts:List Expr}{k:Nat}{gs:List DS.GM}(hc:X.calm=true) (h:DGs X K ts gs) (hn:ts.length=gs.length:=by rfl) (h1:ts.all nst=true:=by rfl) (hK:X.K=K:=by rfl):DG X K (.Tuple ts k pos) (DS.gTup gs):=by
 subst hK
 refine⟨((qtup' hc h.h hn h1).or (qunl' hc h.h hn h1)).imp fun v σ H Q hq1=>?_⟩
 obtain⟨env,S,J,d,env',ha,he,r,e,k⟩:=hq1
 unfold DS.gTup DS.items DS.look at e
 cases d with
 | tup ds=>obtain⟨a,xs,rfl,t,rl⟩:=r;exact .inl ⟨a,xs,rfl,t.sq,by rw[<- rl.length];exact zBt e,env,S,J,ds,env',ha,he,rl,e,k⟩
 | klst ds=>obtain⟨a,xs,rfl,t,rl⟩:=r;exact .inr ⟨a,xs,rfl,t.sq,by rw[<- rl.length];exact zBt e,env,S,J,ds,env',ha,he,rl,e,k⟩
 | ktup ds=>obtain⟨a,xs,rfl,t,rl⟩:=r;exact .inl ⟨a,xs,rfl,t.sq,by rw[<- rl.length];exact zBt e,env,S,J,ds,env',ha,he,rl,e,k⟩
 | lst ds=>obtain⟨a,xs,rfl,t,rl⟩:=r;exact .inr ⟨a,xs,rfl,t.sq,by rw[<- rl.length];exact zBt e,env,S,J,ds,env',ha,he,rl,e,k⟩
 | ref n=>
  obtain⟨a,ea,rfl⟩:=r
  obtain⟨c,ec,o,eo,rc⟩:=ha.at ea
  simp only[ec]at e
  cases c with
  | lst ds=>obtain⟨xs,rfl,rl⟩:=rc;exact .inr ⟨a,xs,rfl,.inl (.inl eo),by rw[<- rl.length];exact zBt e,env,S,J,ds,env',ha,he,rl,e,k⟩
  | dct _ ks vs=>cases e
  | _=>exact False.elim rc
 | _=>cases e
variable {st:Stmt}{sts:List Stmt}{ms mu' mv:DS.SM}
theorem zUj:DSs X K E [] DS.zAv:=⟨pss_nil'.imp fun D σ H hz0=>by obtain⟨env,S,J,ha,he,q⟩:=hz0;exact q J H σ ha .refl he⟩
theorem zEv (h:DS1 X K E st ms):DSs X K E [st] ms:=⟨zHu h.h⟩
theorem zIe (h:DS1 X K E st ms) (k:DSs X K E sts mv):DSs X K E (st::sts) (DS.sSeq ms mv):=⟨(zKr h.h k.h).imp fun D σ H ⟨env,S,J,ha,he,q⟩=>⟨env,S,J,ha,he,by
 unfold DS.sSeq at q
 cases e:ms env S with
 | nx e1 S1=>rw[e]at q;exact fun J' H' σ' h1 g1 h2=>⟨e1,S1,J',h1,h2,PostS.grow g1 q⟩
 | _=>rw[e]at q;exact q⟩⟩
theorem zUf {j:Nat}{x:Str}{pos':Pos}(hN:X.N.Nodup) (hi:X.N[j]?=some x) (hx:Loc X.env.scope x) (he:DE X K E e m) (hf:X.fn x=true\/X.env.scope.names.lookup x=some .local:=by first|exact .inl rfl|exact .inr rfl|assumption) (h:nco e=true:=by rfl):
  DS1 X K E (.Assign [.Name x pos'] e pos) (DS.sSet j m):=⟨(qset' hN hi hx he.h hf h).imp fun D σ H hz1=>by obtain⟨env,S,J,ha,he,q⟩:=hz1;exact ⟨env,S,J,ha,he,q.then.imp fun d S1 J1 H1 _ a1 g1 q1 v rv=>q1 J1 H1 _ a1 .refl ((he.grow g1).set rv)⟩⟩
theorem zPp (he:DE X K E e m) (h:nco e=true:=by rfl):DS1 X K E (.Expr e pos) (DS.zJ0 m):=⟨(qexpr' he.h h).imp fun D σ H hz2=>by obtain⟨env,S,J,ha,he,q⟩:=hz2;exact ⟨env,S,J,ha,he,q.then.imp fun d S1 J1 H1 _ a1 g1 q1 v rv=>q1 J1 H1 σ a1 .refl (he.grow g1)⟩⟩
theorem zMi (he:DE X K E e m):DS1 X K E (.Return (some e) pos) (DS.sRet m):=⟨(zSg he.h).imp fun D σ H hz3=>by obtain⟨env,S,J,ha,he,q⟩:=hz3;exact ⟨env,S,J,ha,he,q.then.imp fun d S1 J1 H1 _ a1 g1 q1 v rv=>q1 J1 H1 v a1 .refl rv⟩⟩
theorem zR1 {ba bb:List Stmt}(hc:DT X K E c mt) (ha:DSs X K E ba ms) (hb:DSs X K E bb mv):DS1 X K E (.If c ba bb pos) (DS.sIf mt ms mv):=⟨(zWi hc.h ha.h hb.h).imp fun D σ H ⟨env,S,J,ha,he,q⟩=>⟨env,S,J,ha,he,q.then.imp fun k S1 J1 H1 _ a1 g1 q1=>by
 cases k with
 | true=>exact⟨env,S1,J1,a1,he.grow g1,q1⟩
 | false=>exact⟨env,S1,J1,a1,he.grow g1,q1⟩⟩⟩
theorem zPo {x y:Str}{px py pt pt2:Pos}{kt k2 i j:Nat}{am:DS.AM}(hc:X.calm=true) (hN:X.N.Nodup) (hi:X.N[i]?=some x) (hj:X.N[j]?=some y) (hij:i≠j)
  (hx:X.env.scope.names.lookup x=some .local) (hy:X.env.scope.names.lookup y=some .local) (ha:DA X K E [a,b] am)
  (hw:swappedStores [.Tuple [.Name x px,.Name y py] kt pt] (.Tuple [a,b] k2 pt2) X.env=pure (some [x,y])):
  DS1 X K E (.Assign [.Tuple [.Name x px,.Name y py] kt pt] (.Tuple [a,b] k2 pt2) pos) (DS.sPar [i,j] am):=⟨(qpar' hc hN hi hj hij hx hy ha.h hw).imp fun D σ H ⟨env,S,J,h,he,q⟩=>⟨env,S,J,h,he,q.then.imp fun ds S1 J1 H1 e1 a1 g1 q1 vs rv=>by
 have hl:=ha.len _ _ _ _ e1
 match ds,hl with
 | [d1,d2],_=>
  obtain⟨v1,r1,rfl,rv1,v2,r2,rfl,rv2,rfl⟩:=rv
  exact⟨v1,v2,rfl,q1 J1 H1 _ a1 .refl (((he.grow g1).set rv1).set rv2)⟩⟩⟩
theorem zMh {body:List Stmt}(hp:PassesOwn (model X.prog X.w) X.A X.env X.xe) (hc:DT X K E c mt) (hb:DSs X K E body ms):DS1 X K E (.While c body [] pos) (DS.zD0 mt ms):=⟨(zKs hp hc.h hb.h).imp fun D σ H hq6=>by
 obtain⟨env,S,J,ha,he,q⟩:=hq6
 unfold DS.zD0 at q
 by_cases hx:∃n,DS.zAs mt ms n env S≠.bad
 ·rw[dif_pos hx]at q
  generalize Classical.choose hx=n at q
  refine⟨fun n σ H=>∃env S J,AbS K J S H/\RepE K J H env σ/\PostS K E J H (DS.zAs mt ms n env S) D,⟨n,env,S,J,ha,he,q⟩,?_⟩
  rintro m σ H ⟨env,S,J,ha,he,q⟩
  cases m with
  | zero=>exact False.elim q
  | succ m=>
   refine⟨env,S,J,ha,he,(PostS.then (by unfold DS.zAs at q;exact q)).imp fun k S1 J1 H1 _ a1 g1 q1=>?_⟩
   cases k with
   | false=>exact q1 J1 H1 σ a1 .refl (he.grow g1)
   | true=>
    rw[xc rfl]at q1 ⊢
    refine⟨fun σ H=>∃env S J,AbS K J S H/\RepE K J H env σ/\PostS K E J H (DS.zAs mt ms m env S) D,fun σ' H' w=>⟨m,Nat.lt_succ_self m,w⟩,env,S1,J1,a1,he.grow g1,?_⟩
    cases e:ms env S1 with
    | nx e1 S2=>rw[e]at q1;exact fun J' H' σ' h1 g2 h2=>⟨e1,S2,J',h1,h2,PostS.grow g2 q1⟩
    | ct e1 S2=>rw[e]at q1;exact fun J' H' σ' h1 g2 h2=>⟨e1,S2,J',h1,h2,PostS.grow g2 q1⟩
    | _=>rw[e]at q1;exact q1
 ·rw[dif_neg hx]at q;exact False.elim q⟩
theorem zIf {α:Type}{l:List α}{i:Nat}(h:i<l.length):l.drop i=l[i]::l.drop (i+1):=List.drop_eq_getElem_cons h
theorem zUi {tg iter:Expr}{body:List Stmt}{im:DS.IM}{g:DS.GM}(hp:PassesOwn (model X.prog X.w) X.A X.env X.xe) (hc:X.calm=true) (hi:DI X K E tg iter im) (hg:DG X K tg g) (hb:DSs X K E body ms) (h:nse iter=true:=by rfl):
  DS1 X K E (.For tg iter body [] pos) (DS.sFor im g ms):=⟨(qfor' hp hc hi.h hg.h hb.h h).imp fun D σ H ⟨env,S,J,ha,he,q⟩=>⟨env,S,J,ha,he,q.then.imp fun w S1 J1 H1 _ a1 g1 q1 I ok=>by
 refine⟨fun i m σ H=>m+i=w.its.length/\∃env S J,AbS K J S H/\Grow J1 H1 J H/\RepE K J H env σ/\PostS K E J H (DS.forL w.gd g ms (w.its.drop i) env S) D,⟨w.its.length,rfl,env,S1,J1,a1,.refl,he.grow g1,q1⟩,?_⟩
 rintro i m σ H ⟨hm,env,S,J,ha,gr,he,q⟩
 by_cases hi:i<w.its.length
 ·rw[zIf hi]at q
  unfold DS.forL at q
  by_cases gd:DS.gOk S w.gd
  ·rw[xc gd]at q
   refine .inr ⟨ok.go i H J S ha gr gd hi,fun σ H=>(m-1)+(i+1)=w.its.length/\∃env S J,AbS K J S H/\Grow J1 H1 J H/\RepE K J H env σ/\PostS K E J H (DS.forL w.gd g ms (w.its.drop (i+1)) env S) D,fun σ' H' wq=>⟨m-1,by nofun,wq⟩,fun x H' y=>?_⟩
   obtain⟨a2,g2,rx⟩:=ok.yld i H J S x H' ha gr gd y _ (xC hi)
   cases eg:g S w.its[i] env with
   | none=>rw[eg]at q;exact False.elim q
   | some env'=>
    rw[eg]at q
    refine⟨env,S,J,w.its[i],env',a2,he.grow g2,rx,eg,fun σ2 he2=>⟨env',S,J,a2,he2,?_⟩⟩
    simp only at q
    cases e:ms env' S with
    | nx e1 S2=>rw[e]at q;exact fun J' H' σ' h1 g3 h2=>⟨by nofun,e1,S2,J',h1,gr.trans (g2.trans g3),h2,PostS.grow (g2.trans g3) q⟩
    | ct e1 S2=>rw[e]at q;exact fun J' H' σ' h1 g3 h2=>⟨by nofun,e1,S2,J',h1,gr.trans (g2.trans g3),h2,PostS.grow (g2.trans g3) q⟩
    | bk e1 S2=>rw[e]at q;exact fun J' H' σ' h1 g3 h2=>q J' H' σ' h1 (g2.trans g3) h2
    | rt e1 S2=>rw[e]at q;exact fun J' H' σ' h1 g3 h2=>q J' H' σ' h1 (g2.trans g3) h2
    | ex e1 S2=>rw[e]at q;exact fun J' H' h1 g3=>q J' H' h1 (g2.trans g3)
    | bad=>rw[e]at q;exact q
  ·rw[xf gd]at q;exact False.elim q
 ·have e0:w.its.drop i=[]:=List.drop_eq_nil_of_le (by nofun)
  rw[e0]at q
  unfold DS.forL at q
  by_cases gd:DS.gOk S w.gd
  ·rw[xc gd]at q
   exact .inl ⟨ok.stop i H J S ha gr gd (by nofun),q J H σ ha .refl he⟩
  ·rw[xf gd]at q;exact False.elim q⟩⟩
theorem zJl {J:Js}{H:Hp}{env:DS.Env}{σ:St}{own:List Str}{ix:List Nat}(he:RepE K J H env σ):RepE K J H (DS.compEnv own.length ix env) (zBw own ix σ):=by
 refine⟨by simp[DS.compEnv,zBw],fun i d e=>?_⟩
 unfold DS.compEnv at e
 unfold zBw
 by_cases hi:i<own.length
 ·rw[x6 (by simpa using hi),List.getElem?_replicate,xc hi]at e
  cases e
 ·rw[vA (by simpa using hi),vp]at e
  rw[vA (by simpa using hi),vp]
  simp only[List.length_replicate,xq]at e ⊢
  cases ej:ix[i-own.length]? with
  | none=>rw[ej]at e;cases e
  | some j=>
   rw[ej]at e
   simp only[vX,Option.some.injEq]at e ⊢
   cases en:env[j]? with
   | none=>rw[en]at e;cases e
   | some o=>
    rw[en]at e
    obtain⟨v,ev,r⟩:=he.get j d (by rw[en];exact congrArg some e)
    exact⟨v,by rw[ev];rfl,r⟩
theorem zIh {own:List Str}{ix:List Nat}{im:DS.IM}{g:DS.GM}:∀σ H Q,tOfF K E (DS.zAf own.length ix im g mt m) σ H Q->zGe own ix (iOf K E im) (gOf K g) (ttOf K E mt) (tOf K E m) σ H Q:=by
 refine fun σ H Q ⟨env,St,J,ha,hE,q⟩=>⟨env,St,J,ha,hE,q.bind.imp fun w S1 J1 H1 _ a1 g1 q1 I ok=>?_⟩
 refine⟨fun i k ys σ H=>k+i=w.its.length/\∃env S J ds,AbS K J S H/\Grow J1 H1 J H/\RepE K J H env σ/\RepL K J H ds ys/\Post K E J H (DS.zC2 w.gd g mt m ys.length (w.its.drop i) env S) (fun vs S2 J2 H2=>∀p o,H2 p=none->ObD K J2 H2 (.lst (ds++vs)) o->Q (.ref p) (upd H2 p o)),
  ⟨w.its.length,rfl,_,S1,J1,[],a1,.refl,zJl (hE.grow g1),rfl,q1.bind.imp fun vs S2 J2 H2 _ a2 g2 q2=>q2 J2 H2 a2 .refl⟩,?_⟩
 rintro i k ys σ H ⟨hk,env,S,J,ds,ha,gr,hE,rl,q⟩
 by_cases hi:i<w.its.length
 ·rw[zIf hi]at q
  unfold DS.zC2 at q
  by_cases gd:DS.gOk S w.gd/\ys.length<DS.most
  ·rw[xc gd]at q
   refine .inr ⟨ok.go i H J S ha gr gd.1 hi,gd.2,fun ys σ H=>(k-1)+(i+1)=w.its.length/\∃env S J ds,AbS K J S H/\Grow J1 H1 J H/\RepE K J H env σ/\RepL K J H ds ys/\Post K E J H (DS.zC2 w.gd g mt m ys.length (w.its.drop (i+1)) env S) (fun vs S2 J2 H2=>∀p o,H2 p=none->ObD K J2 H2 (.lst (ds++vs)) o->Q (.ref p) (upd H2 p o)),
    fun zs σ' H' wq=>⟨k-1,by nofun,wq⟩,fun x H' y=>?_⟩
   obtain⟨a2,g2,rx⟩:=ok.yld i H J S x H' ha gr gd.1 y _ (xC hi)
   cases eg:g S w.its[i] env with
   | none=>rw[eg]at q;exact False.elim q
   | some env'=>
    rw[eg]at q
    refine⟨env,S,J,w.its[i],env',a2,hE.grow g2,rx,eg,fun σ2 he2=>⟨env',S,J,a2,he2,(Post.grow g2 q).bind.imp fun b S3 J3 H3 _ a3 g3 q3=>?_⟩⟩
    cases b with
    | false=>exact⟨by nofun,env',S3,J3,ds,a3,gr.trans (g2.trans g3),he2.grow g3,RepL.grow (g2.trans g3) _ _ rl,q3⟩
    | true=>
     rw[xc rfl]at q3 ⊢
     refine⟨env',S3,J3,a3,he2.grow g3,q3.bind.imp fun d4 S4 J4 H4 _ a4 g4 q4 v rv=>?_⟩
     have g24:=g2.trans (g3.trans g4)
     refine⟨by nofun,env',S4,J4,ds++[d4],a4,gr.trans g24,he2.grow (g3.trans g4),(RepL.grow g24 _ _ rl).snoc rv,?_⟩
     rw[show(ys++[v]).length=ys.length+1 by simp]
     refine q4.bind.imp fun vs S5 J5 H5 _ a5 g5 q5=>?_
     have:=q5 J5 H5 a5 .refl
     rw[List.append_assoc]
     exact this
  ·rw[xf gd]at q;exact False.elim q
 ·have e0:w.its.drop i=[]:=List.drop_eq_nil_of_le (by nofun)
  rw[e0]at q
  unfold DS.zC2 at q
  by_cases gd:DS.gOk S w.gd
  ·rw[xc gd]at q
   have q2:∀(p:Addr) (o:HO),H p=none->ObD K J H (.lst (ds++[])) o->Q (.ref p) (upd H p o):=q J H ha .refl
   rw[vh]at q2
   exact .inl ⟨ok.stop i H J S ha gr gd (by nofun),fun p n=>q2 p (.lst ys) n ⟨ys,rfl,rl⟩⟩
  ·rw[xf gd]at q;exact False.elim q
theorem of_imp:∀σ H Q,tOf K E m σ H Q->tOfF K E m σ H Q:=fun σ H Q hz4=>by obtain⟨env,S,J,ha,he,q⟩:=hz4;exact ⟨env,S,J,ha,he,q.map fun d S' J' H' _ h1 g k p o n r=>k J' (upd H' p o) (h1.push n) (g.trans (.push n)) (.ref p) (r.rep h1 n)⟩
theorem zRw {j:Nat}:∀D σ H,tsOf K E (DS.sSet j m) D σ H->tOf K E m σ H (fun x H1=>gName j x σ H1 D.nx):=fun D σ H hz5=>by obtain⟨env,S,J,ha,he,q⟩:=hz5;exact ⟨env,S,J,ha,he,q.then.imp fun d S1 J1 H1 _ a1 g1 q1 v rv=>q1 J1 H1 _ a1 .refl ((he.grow g1).set rv)⟩
theorem zUq {own fre:List Str}{ix:List Nat}{n:Nat}{scope:Scope}{tg elt iter:Expr}{ifs:List Expr}{im:DS.IM}{g:DS.GM}(hc:X.calm=true) (S:CompScope X own fre ix scope) (hi:DI X K E tg iter im)
  (hg:∀cl C s H fp,DG (zA7 X (own++fre) scope cl C s H fp) K tg g) (ht:∀cl C s H fp,DIf (zA7 X (own++fre) scope cl C s H fp) K E ifs mt) (he:∀cl C s H fp,DE (zA7 X (own++fre) scope cl C s H fp) K E elt m)
  (hn:own.length=n:=by rfl) (h:nse iter=true:=by rfl):DF X K E (.ListComp elt [⟨tg,iter,ifs,0⟩] scope pos) (DS.zAf n ix im g mt m):=by
 subst hn
 exact⟨(qlcomp' hc S hi.h (fun _ _ _ _ _=>(hg _ _ _ _ _).h) (fun _ _ _ _ _=>(ht _ _ _ _ _).h) (fun _ _ _ _ _=>(he _ _ _ _ _).h) h).imp zIh⟩
theorem zPn {own fre:List Str}{ix:List Nat}{n:Nat}{scope:Scope}{j:Nat}{x:Str}{cpos pos':Pos}{tg elt iter:Expr}{ifs:List Expr}{im:DS.IM}{g:DS.GM}(hN:X.N.Nodup) (hix:X.N[j]?=some x) (hx:Loc X.env.scope x)
  (hc:X.calm=true) (S:CompScope X own fre ix scope) (hi:DI X K E tg iter im)
  (hg:∀cl C s H fp,DG (zA7 X (own++fre) scope cl C s H fp) K tg g) (ht:∀cl C s H fp,DIf (zA7 X (own++fre) scope cl C s H fp) K E ifs mt) (he:∀cl C s H fp,DE (zA7 X (own++fre) scope cl C s H fp) K E elt m)
  (hsw:swapsWith (.ListComp elt [⟨tg,iter,ifs,0⟩] scope cpos) (some (.Name x pos')) pos.line X.env=pure true:=by rfl) (h:nse iter=true:=by rfl) (hf:X.fn x=true\/X.env.scope.names.lookup x=some .local:=by first|exact .inl rfl|exact .inr rfl|assumption) (hn:own.length=n:=by rfl):
  DS1 X K E (.Assign [.Name x pos'] (.ListComp elt [⟨tg,iter,ifs,0⟩] scope cpos) pos) (DS.sSet j (DS.zAf n ix im g mt m)):=by
 subst hn
 exact⟨(qsetc' hN hix hx hc S hi.h (fun _ _ _ _ _=>(hg _ _ _ _ _).h) (fun _ _ _ _ _=>(ht _ _ _ _ _).h) (fun _ _ _ _ _=>(he _ _ _ _ _).h) hsw h hf).imp fun D σ H h=>zIh σ H _ (of_imp σ H _ (zRw D σ H h))⟩
end
section
variable {P:Program}{w:World}{K:PySem.W.Frag}{mg:Str->Option Value}{base:Heap}
theorem zG0 {E:XE}{J:Js}{H:Hp}{np nl:Nat}{b:DS.SM}{ds:List D}{S:Store}{P:D->Store->Js->Hp->Prop}(h:Post K E J H (DS.zAi np nl b ds S) P):ds.length=np:=by
 unfold DS.zAi at h
 by_cases e:ds.length=np
 ·exact e
 ·rw[xf e]at h;exact False.elim h
theorem zE9 {J:Js}{H:Hp}{ds:List D}{vs:List V}{N:List Str}(r:RepL K J H ds vs):RepE K J H (ds.map some++List.replicate (N.length-ds.length) none) (start N vs):=by
 refine⟨by simp[start,r.length],fun i d e=>?_⟩
 unfold start
 by_cases hi:i<ds.length
 ·rw[x6 (by simpa using hi),vp]at e
  rw[x6 (by simpa[<- r.length]using hi),vp]
  cases ed:ds[i]? with
  | none=>rw[ed]at e;cases e
  | some d'=>
   rw[ed]at e;cases e
   obtain⟨x,ex,rx⟩:=r.get ed
   exact⟨x,by rw[ex];rfl,rx⟩
 ·rw[vA (by simpa using hi),List.getElem?_replicate]at e
  split at e <;> cases e
theorem body_ok {J:Js}{H:Hp}{np:Nat}{N:List Str}{b:DS.SM}{ds:List D}{vs:List V}{S:Store}{Q:VK}(ha:AbS K J S H) (r:RepL K J H ds vs)
  (h:Post K XE0 J H (DS.zAi np N.length b ds S) (fun d _ J' H'=>∀v,Rep K J' H' d v->Q v H')):tsOf K XE0 b { nx:=fun _ H'=>Q .non H',rt:=Q } (start N vs) H:=by
 have hl:=zG0 h
 unfold DS.zAi at h
 rw[xc hl,<- hl]at h
 refine⟨_,S,J,ha,zE9 r,?_⟩
 have fin:∀d S' J' H' v,AbS K J' S' H'->Grow J H J' H'->Rep K J' H' d v->Post K XE0 J H (DS.fin S d S') (fun d _ J' H'=>∀v,Rep K J' H' d v->Q v H')->Q v H':=fun d S' J' H' v a1 g1 r1 q=>by
  cases e:DS.fin S d S' with
  | ok d2 S2=>
   obtain⟨J2,a2,g2,r2⟩:=zQz ha g1 a1 r1 e
   rw[e]at q
   exact q J2 H' a2 g2 v r2
  | ex x S2=>rw[e]at q;exact False.elim (q J' H' (by
    exfalso
    unfold DS.fin at e
    split at e <;> try cases e
    split at e <;> try cases e
    split at e <;> try cases e
    split at e <;> try cases e
    split at e <;> cases e) g1)
  | bad=>rw[e]at q;exact False.elim q
 cases e:b (ds.map some++List.replicate (N.length-ds.length) none) S with
 | nx e1 S1=>rw[e]at h;exact fun J' H' σ h1 g1 _=>fin .non S1 J' H' .non h1 g1 rfl h
 | rt d S1=>rw[e]at h;exact fun J' H' v h1 g1 r1=>fin d S1 J' H' v h1 g1 r1 h
 | bk e1 S1=>rw[e]at h;exact False.elim h
 | ct e1 S1=>rw[e]at h;exact False.elim h
 | ex x S1=>rw[e]at h;exact h
 | bad=>rw[e]at h;exact False.elim h
theorem fn_d {k:Nat}{x qual:Str}{st:Stmt}{f:Addr}{fd:FuncData}{N ps:List Str}{np nl:Nat}{b:DS.SM}(F:Fun K x qual st f fd) (Sc:zBl N ps (zA1 st)) (hnp:ps.length=np) (hnl:N.length=nl)
  (hb:∀(cdv:Value) (A:Around) (outer:List PySem.Env) (s:Shared) (H:Hp) (E:XK),Room k (A.deeper (envOfC qual (zA1 st) s.heap.objs.size f cdv))->DSs (cxOf CX0 P w K mg base N qual (zA1 st) f cdv A outer s H E).nox K XE0 (zAa st) b):
  FnOk P w K mg base CX0 (k+1) f fd ps (spOf K XE0 (DS.zAi np nl b)):=by
 subst hnp hnl
 refine F.ok Sc (fun vs H Q E h=>?_) (fun cdv A outer s H vs Q E hr h=>?_)
 ·obtain⟨J,S,ds,ha,r,q⟩:=h
  rw[<- r.length];exact zG0 q
 ·obtain⟨J,S,ds,ha,r,q⟩:=h
  exact⟨_,(hb cdv A outer s H E hr).h.h,body_ok ha r q⟩
theorem zQ1 {J:Js}{H:Hp}{np:Nat}{N:List Str}{b:DS.SM}{ds:List D}{vs:List V}{S:Store}{Q:VK}(hl:ds.length=np) (ha:AbS K J S H) (r:RepL K J H ds vs)
  (h:Post K XE0 J H (DS.zDg np N.length b ds S) (fun d _ J' H'=>∀v,Rep K J' H' d v->Q v H')):tsOf K XE0 b { nx:=fun _ H'=>Q .non H',rt:=Q } (start N vs) H:=by
 unfold DS.zDg at h
 rw[xc hl,<- hl]at h
 refine⟨_,S,J,ha,zE9 r,?_⟩
 cases e:b (ds.map some++List.replicate (N.length-ds.length) none) S with
 | nx e1 S1=>rw[e]at h;exact fun J' H' σ h1 g1 _=>h J' H' h1 g1 .non rfl
 | rt d S1=>rw[e]at h;exact fun J' H' v h1 g1 r1=>h J' H' h1 g1 v r1
 | bk e1 S1=>rw[e]at h;exact False.elim h
 | ct e1 S1=>rw[e]at h;exact False.elim h
 | ex x S1=>rw[e]at h;exact h
 | bad=>rw[e]at h;exact False.elim h
theorem fn_r {k:Nat}{x qual:Str}{st:Stmt}{f:Addr}{fd:FuncData}{N ps:List Str}{np nl:Nat}{b:DS.SM}(F:Fun K x qual st f fd) (Sc:zBl N ps (zA1 st)) (hnp:ps.length=np) (hnl:N.length=nl)
  (hb:∀(cdv:Value) (A:Around) (outer:List PySem.Env) (s:Shared) (H:Hp) (E:XK),Room k (A.deeper (envOfC qual (zA1 st) s.heap.objs.size f cdv))->DSs (cxOf CX0 P w K mg base N qual (zA1 st) f cdv A outer s H E).nox K XE0 (zAa st) b):
  FnOk P w K mg base CX0 (k+1) f fd ps (spOf K XE0 (DS.zDg np nl b)):=by
 subst hnp hnl
 have cl:∀{J:Js}{H:Hp}{ds:List D}{S:Store}{P:D->Store->Js->Hp->Prop},Post K XE0 J H (DS.zDg ps.length N.length b ds S) P->ds.length=ps.length:=fun {J H ds S P} h=>by
  unfold DS.zDg at h
  by_cases e:ds.length=ps.length
  ·exact e
  ·rw[xf e]at h;exact False.elim h
 refine F.ok Sc (fun vs H Q E h=>?_) (fun cdv A outer s H vs Q E hr h=>?_)
 ·obtain⟨J,S,ds,ha,r,q⟩:=h
  rw[<- r.length];exact cl q
 ·obtain⟨J,S,ds,ha,r,q⟩:=h
  exact⟨_,(hb cdv A outer s H E hr).h.h,zQ1 (cl q) ha r q⟩
end
end L2
namespace DS
open PySem (Str)
noncomputable section
open Classical
noncomputable def big:Nat:=2 ^ 5000
noncomputable def sm (x:Int):Prop:=x.natAbs<big
theorem zCx {x:Int}(h1:-(2 ^ 200)<x) (h2:x<2 ^ 200):sm x:=by
 have h:(2:Nat) ^ 200<=big:=Nat.pow_le_pow_right (by decide) (by decide)
 have e:((2 ^ 200:Nat):Int)=2 ^ 200:=by norm_cast
 unfold sm
 lia
noncomputable def addD (S:Store) (x y:D):Option D:=match x,y with
 | .int a,.int b=>some (.int (a+b))
 | .str a,.str b=>if a.length+b.length<=most then some (.str (a++b))else none
 | .tup l,.tup m=>if l≠[]/\l.length+m.length<=most then some (.tup (l++m))else none
 | x,y=>match litems S x,litems S y with
  | some l,some m=>if l.length+m.length<=most then some (.lst (l++m))else none
  | _,_=>none
noncomputable def catD (S:Store) (x y:D):Option D:=match litems S x,litems S y with
 | some l,some m=>if l.length+m.length<=most then some (.lst (l++m))else none
 | _,_=>none
noncomputable def subD (_:Store) (x y:D):Option D:=match x,y with
 | .int a,.int b=>some (.int (a-b))
 | _,_=>none
noncomputable def mulD (S:Store) (x y:D):Option D:=match x,y with
 | .int a,.int b=>if sm a/\sm b then some (.int (a*b))else none
 | _,_=>none
noncomputable def zGv (_:Store) (x y:D):Option D:=match x,y with
 | .int a,.int b=>if b≠0/\sm b then some (.int (a.fdiv b))else none
 | _,_=>none
noncomputable def modD (_:Store) (x y:D):Option D:=match x,y with
 | .int a,.int b=>if 0<b then some (.int (a % b))else none
 | _,_=>none
noncomputable def powD (_:Store) (x y:D):Option D:=match x,y with
 | .int a,.int b=>if 0<=b/\b<=1000000/\a.natAbs<2 ^ 64 then some (.int (a ^ b.toNat))else none
 | _,_=>none
noncomputable def negD (_:Store) (x:D):Option D:=match x with
 | .int a=>some (.int (-a))
 | _=>none
noncomputable def iLt (p:Int->Int->Bool) (q:List Nat->List Nat->Bool) (x y:D):Option D:=match x,y with
 | .int a,.int b=>some (.bl (p a b))
 | .str a,.str b=>some (.bl (q a.cps.toList b.cps.toList))
 | _,_=>none
noncomputable def leD (_:Store) (x y:D):Option D:=iLt (fun a b=>decide (a<=b)) (fun a b=>!decide (b<a)) x y
noncomputable def gtD (_:Store) (x y:D):Option D:=match x,y with
 | .int a,.int b=>some (.bl (decide (b<a)))
 | _,_=>none
noncomputable def geD (_:Store) (x y:D):Option D:=match x,y with
 | .int a,.int b=>some (.bl (decide (b<=a)))
 | _,_=>none
noncomputable def isN:D->Bool
 | .non=>true
 | _=>false
noncomputable def ixN (n:Nat) (i:Int):Option Nat:=if 0<=i then(if i<n then some i.toNat else none)else if -(n:Int)<=i then some (i+n).toNat else none
noncomputable def atL {α:Type}(xs:List α) (i:Int):Option α:=(ixN xs.length i).bind fun j=>xs[j]?
noncomputable def look2 (ks vs:List D) (k:D):Option D:=match ks,vs with
 | a::r,v::t=>if a=k then some v else look2 r t k
 | _,_=>none
noncomputable def isKey:D->Bool
 | .int _=>true
 | .str _=>true
 | .tup l=>l.all fun d=>match d with
  | .int _=>true
  | .str _=>true
  | _=>false
 | _=>false
noncomputable def zCl (t:Bool) (k:D):Bool:=isKey k && (match k with
 | .tup _=>t
 | _=>!t)
noncomputable def ixD (S:Store) (x y:D):Option D:=match look S x,y with
 | some (.tup l),.int i=>atL l i
 | some (.lst l),.int i=>atL l i
 | some (.str z),.int i=>if z.length<=most then(atL z.cps.toList i).map fun c=>.str ⟨#[c]⟩else none
 | some (.dct t ks vs),k=>if zCl t k=true then look2 ks vs k else none
 | _,_=>none
noncomputable def sIx (n d:Nat):Option Int->Nat
 | none=>d
 | some v=>if v<0 then(v+(n:Int)).toNat else min v.toNat n
noncomputable def cutL {α:Type}(xs:List α) (lo hi:Option Int):List α:=(xs.drop (sIx xs.length 0 lo)).take (sIx xs.length xs.length hi-sIx xs.length 0 lo)
noncomputable def slD (S:Store) (x:D) (lo hi:Option Int):Option D:=match x with
 | .tup l=>some (.tup (cutL l lo hi))
 | .ktup l=>if sIx l.length 0 lo=0/\sIx l.length l.length hi=l.length then some (.ktup l)else some (.tup (cutL l lo hi))
 | x=>match look S x with
  | some (.lst l)=>some (.lst (cutL l lo hi))
  | _=>none
noncomputable def revL (S:Store) (x:D):Option D:=match look S x with
 | some (.lst l)=>some (.lst l.reverse)
 | _=>none
noncomputable def repl2:List D->List D->D->D->List D
 | a::r,w::t,k,v=>(if a=k then v else w)::repl2 r t k v
 | _,_,_,_=>[]
noncomputable def put2 (ks vs:List D) (k v:D):List D × List D:=if k∈ks then(ks,repl2 ks vs k v)else(ks++[k],vs++[v])
noncomputable def lenB (S:Store):List D->Option D
 | [d]=>match look S d with
  | some (.tup l)=>some (.int l.length)
  | some (.lst l)=>some (.int l.length)
  | some (.dct _ ks _)=>some (.int ks.length)
  | some (.str x)=>if x.length<=most then some (.int x.length)else none
  | _=>none
 | _=>none
noncomputable def zB1 (S:Store):List D->Option D
 | [d]=>match d with
  | .tup l=>some (.tup l)
  | .ktup l=>some (.ktup l)
  | d=>(litems S d).map D.tup
 | _=>none
noncomputable def bools:List D->Option (List Bool)
 | []=>some []
 | .bl b::r=>(bools r).map (b::·)
 | _=>none
noncomputable def allB (S:Store):List D->Option D
 | [d]=>((litems S d).bind bools).map fun bs=>.bl (bs.all id)
 | _=>none
noncomputable def max2B (_:Store):List D->Option D
 | [.int i,.int j]=>some (.int (if j > i then j else i))
 | _=>none
noncomputable def zB8 (S:Store) (o:D) (xs:List D):Option (D × Store):=match o,xs with
 | .ref n,[v]=>match S[n]? with
  | some (.lst l)=>if l.length<most then some (.non,S.set n (.lst (l++[v])))else none
  | _=>none
 | _,_=>none
noncomputable def popM (S:Store) (o:D) (xs:List D):Option (D × Store):=match o,xs with
 | .ref n,[]=>match S[n]? with
  | some (.lst l)=>(l[l.length-1]?).map fun v=>(v,S.set n (.lst l.dropLast))
  | _=>none
 | _,_=>none
end
end DS
namespace L2
open PySem PySem.Spec PyProof.Rows
open DS (D Store Exn Rs SR)
section
variable {X:Cx}{K:PySem.W.Frag}{E:XE}{J:Js}{S:Store}{H:Hp}{d d1 d2:D}{v:V}
theorem Inv.lstR {pins:List (Addr × Obj)}{σ:St}{s:Shared}{l:Addr}{xs:List V}(I:Inv X pins σ H s) (hH:Rd H l (.lst xs)):xs.length<=sizeLine/\∃(its:List Value) (n:Nat),Vals xs its/\xs.length=its.length/\s.heap.get? l=some { cls:=.type "list",data:=.seq its.toArray n }:=by
 obtain⟨z,its,n,r,e⟩:=hH.ok I.hok
 exact⟨z,its,n,r,r.length,e⟩
theorem zBb {l:List D}(ha:AbS K J S H) (r:Rep K J H d v) (e:DS.litems S d=some l):∃a xs,v=.ref a/\Rd H a (.lst xs)/\RepL K J H l xs:=by
 cases d with
 | lst ds=>cases e;obtain⟨a,xs,rfl,t,rl⟩:=r;exact⟨a,xs,rfl,.inl t.1,rl⟩
 | ref n=>
  obtain⟨a,ea,rfl⟩:=r
  obtain⟨c,ec,o,eo,rc⟩:=ha.at ea
  unfold DS.litems DS.look at e
  simp only[ec]at e
  cases c with
  | lst ds=>cases e;obtain⟨xs,rfl,rl⟩:=rc;exact⟨a,xs,rfl,.inl eo,rl⟩
  | dct _ ks vs=>cases e
  | _=>exact False.elim rc
 | _=>cases e
theorem zCp {l:List D}(ha:AbS K J S H) (r:Rep K J H d v) (e:DS.items S d=some l):∃a xs,v=.ref a/\(SqL K H a xs\/SqT K H a xs)/\RepL K J H l xs:=by
 cases d with
 | tup ds=>cases e;obtain⟨a,xs,rfl,t,rl⟩:=r;exact⟨a,xs,rfl,.inr t.sq,rl⟩
 | ktup ds=>cases e;obtain⟨a,xs,rfl,t,rl⟩:=r;exact⟨a,xs,rfl,.inr t.sq,rl⟩
 | klst ds=>cases e;obtain⟨a,xs,rfl,t,rl⟩:=r;exact⟨a,xs,rfl,.inl t.sq,rl⟩
 | lst ds=>cases e;obtain⟨a,xs,rfl,t,rl⟩:=r;exact⟨a,xs,rfl,.inl t.sq,rl⟩
 | ref n=>
  obtain⟨a,ea,rfl⟩:=r
  obtain⟨c,ec,o,eo,rc⟩:=ha.at ea
  unfold DS.items DS.look at e
  simp only[ec]at e
  cases c with
  | lst ds=>cases e;obtain⟨xs,rfl,rl⟩:=rc;exact⟨a,xs,rfl,.inl (.inl (.inl eo)),rl⟩
  | dct _ ks vs=>cases e
  | _=>exact False.elim rc
 | _=>cases e
theorem zT1:OpR X (binaryOp .Sub) (r2Of K DS.subD):=by
 intro pins s σ H x y v u Q I rx ry hq7
 obtain⟨J,S,d1,d2,d,ha,r1,r2,e,k⟩:=hq7
 unfold DS.subD at e
 split at e
 ·cases e;obtain rfl:=r1;obtain rfl:=r2
  exact zX6 pins s σ H _ _ v u Q I rx ry ⟨_,_,rfl,rfl,k _ H ha .refl rfl⟩
 ·cases e
theorem zLa:OpR X (binaryOp .Mult) (r2Of K DS.mulD):=by
 intro pins s σ H x y v u Q I rx ry hq8
 obtain⟨J,S,d1,d2,d,ha,r1,r2,e,k⟩:=hq8
 unfold DS.mulD at e
 split at e
 ·split at e
  ·rename_i h
   cases e;obtain rfl:=r1;obtain rfl:=r2
   exact zT3 pins s σ H _ _ v u Q I rx ry ⟨_,_,rfl,rfl,h,k _ H ha .refl rfl⟩
  ·cases e
 ·cases e
theorem zOr:OpR X (binaryOp .FloorDiv) (r2Of K DS.zGv):=by
 intro pins s σ H x y v u Q I rx ry hq9
 obtain⟨J,S,d1,d2,d,ha,r1,r2,e,k⟩:=hq9
 unfold DS.zGv at e
 split at e
 ·split at e
  ·rename_i h
   cases e;obtain rfl:=r1;obtain rfl:=r2
   exact zOq pins s σ H _ _ v u Q I rx ry ⟨_,_,rfl,rfl,h,k _ H ha .refl rfl⟩
  ·cases e
 ·cases e
theorem zT5:OpR X (binaryOp .Mod) (r2Of K DS.modD):=by
 intro pins s σ H x y v u Q I rx ry hq10
 obtain⟨J,S,d1,d2,d,ha,r1,r2,e,k⟩:=hq10
 unfold DS.modD at e
 split at e
 ·split at e
  ·rename_i h
   cases e;obtain rfl:=r1;obtain rfl:=r2
   exact zX9 pins s σ H _ _ v u Q I rx ry ⟨_,_,rfl,rfl,h,k _ H ha .refl rfl⟩
  ·cases e
 ·cases e
theorem zT2:OpR X (binaryOp .Pow) (r2Of K DS.powD):=by
 intro pins s σ H x y v u Q I rx ry hq11
 obtain⟨J,S,d1,d2,d,ha,r1,r2,e,k⟩:=hq11
 unfold DS.powD at e
 split at e
 ·split at e
  ·rename_i h
   cases e;obtain rfl:=r1;obtain rfl:=r2
   exact zX7 pins s σ H _ _ v u Q I rx ry ⟨_,_,rfl,rfl,h,k _ H ha .refl rfl⟩
  ·cases e
 ·cases e
theorem zJz:UnR X (unaryOp .USub) (r1Of K DS.negD):=by
 intro pins s σ H x v Q I rx hq12
 obtain⟨J,S,d1,d,ha,r1,e,k⟩:=hq12
 unfold DS.negD at e
 split at e
 ·cases e;obtain rfl:=r1
  exact zVi pins s σ H _ v Q I rx ⟨_,rfl,k _ H ha .refl rfl⟩
 ·cases e
theorem zN0 {pins:List (Addr × Obj)}{σ:St}{s:Shared}{a b:Addr}{xs ys:List V}{Q:VK}(I:Inv X pins σ H s) (h1:Rd H a (.lst xs)) (h2:Rd H b (.lst ys)) (hz:xs.length+ys.length<=sizeLine) (q:∀p,H p=none->Q (.ref p) (upd H p (.lst (xs++ys)))):
  wpAny (model X.prog X.w) X.A (binaryOp .Add (.ref a) (.ref b)) (EP X pins σ Q) X.xe s:=by
 obtain⟨z,its,n,r,hl,e⟩:=I.lstR h1
 obtain⟨z2,its2,n2,r2,hl2,e2⟩:=I.lstR h2
 refine PySem.P.add_list e e2 ?_ (by rw[xu,xu,<- hl,<- hl2];exact hz)
 rw[show its.toArray++its2.toArray=(its++its2).toArray by simp]
 exact⟨.ref _,_,I.lnew (r.append r2) (by rw[xE];exact hz),rfl,q _ I.fresh⟩
theorem zOs:OpR X (binaryOp .Add) (yA1 K DS.catD):=by
 intro pins s σ H x y v u Q I rx ry hq13
 obtain⟨J,S,d1,d2,d,ha,r1,r2,e,k⟩:=hq13
 unfold DS.catD at e
 split at e
 ·rename_i l m e1 e2
  split at e
  ·rename_i h
   cases e
   obtain⟨a,xs,rfl,h1,q1⟩:=zBb ha r1 e1
   obtain⟨b,ys,rfl,h2,q2⟩:=zBb ha r2 e2
   cases rx
   cases ry
   exact zN0 I h1 h2 (by rw[<- q1.length,<- q2.length];exact h) fun p n=>k p _ H ha .refl n ⟨_,rfl,q1.append q2⟩
  ·cases e
 ·cases e
theorem zT8 (hK:X.K=K:=by rfl):OpR X (binaryOp .Add) (r2Of K DS.addD):=by
 subst hK
 intro pins s σ H x y v u Q I rx ry hq14
 obtain⟨J,S,d1,d2,d,ha,r1,r2,e,k⟩:=hq14
 unfold DS.addD at e
 split at e
 ·cases e;obtain rfl:=r1;obtain rfl:=r2
  exact zXf pins s σ H _ _ v u Q I rx ry ⟨_,_,rfl,rfl,k _ H ha .refl rfl⟩
 ·split at e
  ·rename_i h
   cases e;obtain rfl:=r1;obtain rfl:=r2
   exact zJ6 pins s σ H _ _ v u Q I rx ry ⟨_,_,rfl,rfl,h,k _ H ha .refl rfl⟩
  ·cases e
 ·split at e
  ·rename_i l m h
   cases e
   obtain⟨a,xs,rfl,t1,q1⟩:=r1
   obtain⟨b,ys,rfl,t2,q2⟩:=r2
   have e1:=q1.length
   have e2:=q2.length
   refine zT7 pins s σ H _ _ v u Q I rx ry ⟨a,b,xs,ys,rfl,rfl,t1.sq,t2.sq,fun z=>h.1 (by subst z;exact yd e1),by rw[<- e1,<- e2];exact h.2,fun z=>?_,fun z p n=>?_⟩
   ·subst z
    obtain rfl:m=[]:=yd e2
    rw[vh]at k
    exact k _ H ha .refl ⟨a,xs,rfl,t1,q1⟩
   ·exact k _ _ (ha.push n) (.push n) ⟨p,_,rfl,⟨zA5,ha.out n⟩,RepL.grow (.push n) _ _ (q1.append q2)⟩
  ·cases e
 ·exact zOs pins s σ H _ _ v u Q I rx ry ⟨J,S,d1,d2,d,ha,r1,r2,e,fun p o H' a1 g1 n r=>k _ _ (a1.push n) (g1.trans (.push n)) (r.rep a1 n)⟩
end
end L2
namespace L2
open PySem PySem.Spec PyProof.Rows
open DS (D Store Exn Rs SR)
section
variable {X:Cx}{K:PySem.W.Frag}{E:XE}{J:Js}{S:Store}{H:Hp}{d d1 d2:D}{v:V}
theorem zHv:OpR X (compareOp .LtE) (r2Of K DS.leD):=by
 intro pins s σ H x y v u Q I rx ry hq15
 obtain⟨J,S,d1,d2,d,ha,r1,r2,e,k⟩:=hq15
 unfold DS.leD DS.iLt at e
 split at e
 ·cases e;obtain rfl:=r1;obtain rfl:=r2
  exact yAg pins s σ H _ _ v u Q I rx ry ⟨_,_,rfl,rfl,k _ H ha .refl (congrArg V.bl (by congr))⟩
 ·cases e;obtain rfl:=r1;obtain rfl:=r2
  exact zLc pins s σ H _ _ v u Q I rx ry ⟨_,_,rfl,rfl,k _ H ha .refl (congrArg V.bl (by congr))⟩
 ·cases e
theorem zXa:OpR X (compareOp .Gt) (r2Of K DS.gtD):=by
 intro pins s σ H x y v u Q I rx ry hq16
 obtain⟨J,S,d1,d2,d,ha,r1,r2,e,k⟩:=hq16
 unfold DS.gtD at e
 split at e
 ·cases e;obtain rfl:=r1;obtain rfl:=r2
  exact yAh pins s σ H _ _ v u Q I rx ry ⟨_,_,rfl,rfl,k _ H ha .refl (congrArg V.bl (by congr))⟩
 ·cases e
theorem zXc:OpR X (compareOp .GtE) (r2Of K DS.geD):=by
 intro pins s σ H x y v u Q I rx ry hq17
 obtain⟨J,S,d1,d2,d,ha,r1,r2,e,k⟩:=hq17
 unfold DS.geD at e
 split at e
 ·cases e;obtain rfl:=r1;obtain rfl:=r2
  exact yAi pins s σ H _ _ v u Q I rx ry ⟨_,_,rfl,rfl,k _ H ha .refl (congrArg V.bl (by congr))⟩
 ·cases e
theorem zZn {α β:Type}{l:List α}{xs:List β}{i:Int}{a:α}(hl:l.length=xs.length) (e:DS.atL l i=some a):∃j:Nat,l[j]?=some a/\∀b,xs[j]?=some b->atI xs i=some b:=by
 unfold DS.atL at e
 unfold atI
 rw[show DS.ixN l.length i=L2.ixN xs.length i by rw[hl];rfl]at e
 cases e1:L2.ixN xs.length i with
 | none=>rw[e1]at e;cases e
 | some j=>rw[e1]at e;exact⟨j,e,fun b eb=>eb⟩
theorem zEn {k k':Key}(h:keyD k=keyD k'):k=k':=by
 cases k <;> cases k' <;> first|(cases h;rfl)|cases h
theorem zEm {k:Key}(r:Rep K J H (keyD k) v):v=kV k:=by cases k <;> exact r
theorem zDq:∀{l m:List Key},l.map keyD=m.map keyD->l=m
 | [],[],_=>rfl
 | [],_::_,h=>by cases h
 | _::_,[],h=>by cases h
 | a::l,b::m,h=>by
  have h:=uk h
  rw[zEn h.1,zDq h.2]
theorem zK2 {k k':List Key}(h:zRm k=zRm k'):k=k':=zDq (D.tup.inj h)
theorem zHp (h:DS.isKey d=true) (n:∀l,d≠.tup l):∃k,d=keyD k:=by
 cases d with
 | int i=>exact⟨.inl i,rfl⟩
 | str x=>exact⟨.inr x,rfl⟩
 | tup l=>exact absurd rfl (n l)
 | _=>cases h
theorem zLr:∀{l:List D},(l.all fun d=>match d with
  | .int _=>true
  | .str _=>true
  | _=>false)=true->∃k:List Key,l=k.map keyD
 | [],_=>⟨[],rfl⟩
 | d::l,h=>by
  rw[vw,xm]at h
  obtain⟨k,rfl⟩:=zLr h.2
  cases d with
  | int i=>exact⟨.inl i::k,rfl⟩
  | str x=>exact⟨.inr x::k,rfl⟩
  | _=>cases h.1
theorem zI2:∀{k:List Key}{xs:List V},RepL K J H (k.map keyD) xs->xs=k.map kV
 | [],_,h=>h
 | a::k,_,⟨x,r,e,h,t⟩=>by subst e;rw[zEm h,zI2 t];rfl
open Classical in
theorem zGu {κ:Type}[DecidableEq κ] {f:κ->D}(fi:∀a b,f a=f b->a=b) (k:κ):∀{kvs:List (κ × V)}{vs:List D},RepL K J H vs (kvs.map (·.2))->
  (valV kvs k=none/\f k ∉ kvs.map (fun p=>f p.1)/\DS.look2 (kvs.map fun p=>f p.1) vs (f k)=none)\/∃w dv,valV kvs k=some w/\f k∈kvs.map (fun p=>f p.1)/\DS.look2 (kvs.map fun p=>f p.1) vs (f k)=some dv/\Rep K J H dv w
 | [],vs,r=>.inl ⟨rfl,by simp,by cases vs <;> rfl⟩
 | p::kvs,[],r=>by have h:p.2::kvs.map (·.2)=[]:=r;cases h
 | p::kvs,dv::vs,⟨x,t,e,h,rl⟩=>by
  have e:=uk (e)
  obtain⟨rfl,rfl⟩:=e
  by_cases z:p.1=k
  ·refine .inr ⟨p.2,dv,zE3 z,by simp[z],?_,h⟩
   unfold DS.look2
   rw[xx]
   exact xc (by rw[z])
  ·have zf:f p.1≠f k:=fun q=>z (fi _ _ q)
   have e1:DS.look2 ((p::kvs).map fun p=>f p.1) (dv::vs) (f k)=DS.look2 (kvs.map fun p=>f p.1) vs (f k):=by
    rw[xx]
    conv=>lhs;unfold DS.look2
    exact xf zf
   rw[zE4 z,e1]
   rcases zGu fi k rl with⟨a1,a2,a3⟩|⟨w,dv',a1,a2,a3,a4⟩
   ·exact .inl ⟨a1,by simp[a2,xr zf] <;> simpa using a2,a3⟩
   ·exact .inr ⟨w,dv',a1,by rw[xx];exact xX _ a2,a3,a4⟩
theorem zUo {t:Bool}{ks vs:List D}{a:Addr}{o:HO}{xs:List V}{y:V}(he:Rd H a o) (ht:DOb o t ks xs) (rl:RepL K J H vs xs) (ry:Rep K J H d y) (hk:DS.zCl t d=true):
  (DGet H a y none/\d ∉ ks/\DS.look2 ks vs d=none)\/∃w dv,DGet H a y (some w)/\d∈ks/\DS.look2 ks vs d=some dv/\Rep K J H dv w:=by
 unfold DS.zCl at hk
 rw[xm]at hk
 rcases ht with⟨rfl,kvs,rfl,rfl,rfl⟩|⟨rfl,kvs,rfl,rfl,rfl⟩
 ·obtain⟨k,rfl⟩:=zHp hk.1 fun l z=>by subst z;cases hk.2
  obtain rfl:=zEm ry
  rcases zGu (fun a b=>zEn) k rl with⟨a1,a2,a3⟩|⟨w,dv,a1,a2,a3,a4⟩
  ·exact .inl ⟨.inl ⟨kvs,k,he,rfl,a1.symm⟩,a2,a3⟩
  ·exact .inr ⟨w,dv,.inl ⟨kvs,k,he,rfl,a1.symm⟩,a2,a3,a4⟩
 ·cases d with
  | tup l=>
   obtain⟨k,rfl⟩:=zLr (hk.1)
   obtain⟨b,zs,rfl,tb,rz⟩:=ry
   obtain rfl:=zI2 rz
   rcases zGu (fun a b=>zK2) k rl with⟨a1,a2,a3⟩|⟨w,dv,a1,a2,a3,a4⟩
   ·exact .inl ⟨.inr ⟨kvs,k,b,he,rfl,tb.1,a1.symm⟩,a2,a3⟩
   ·exact .inr ⟨w,dv,.inr ⟨kvs,k,b,he,rfl,tb.1,a1.symm⟩,a2,a3,a4⟩
  | _=>cases hk.2
theorem zR8 {t:Bool}{ks vs:List D}(ha:AbS K J S H) (r:Rep K J H d v) (e:DS.look S d=some (.dct t ks vs)):∃a o xs,v=.ref a/\Rd H a o/\DOb o t ks xs/\RepL K J H vs xs:=by
 cases d with
 | dct t ks vs=>cases e;obtain⟨a,o,xs,rfl,_,h,q,rl⟩:=r;exact⟨a,o,xs,rfl,h,q,rl⟩
 | ref n=>
  obtain⟨a,ea,rfl⟩:=r
  obtain⟨c,ec,o,eo,rc⟩:=ha.at ea
  have e:S[n]?=_:=e
  rw[ec]at e;cases e
  obtain⟨xs,q,rl⟩:=rc
  exact⟨a,o,xs,rfl,.inl eo,q,rl⟩
 | _=>cases e
theorem zK6 {x:Str}(ha:AbS K J S H) (r:Rep K J H d v) (e:DS.look S d=some (.str x)):v=.str x:=by
 cases d with
 | str x=>cases e;exact r
 | ref n=>
  obtain⟨a,ea,rfl⟩:=r
  obtain⟨c,ec,o,eo,rc⟩:=ha.at ea
  have e:S[n]?=_:=e
  rw[ec]at e;cases e
  exact False.elim rc
 | _=>cases e
theorem zBs {l:List D}(e:DS.look S d=some (.tup l)\/DS.look S d=some (.lst l)):DS.items S d=some l:=by
 unfold DS.items
 rcases e with e|e <;> rw[e]
theorem ix_D (hu:X.A.units+1<cLine) (hK:X.K=K:=by rfl):IxR X (r2Of K DS.ixD):=by
 subst hK
 intro value slice pins s σ H x y v u Q I rx ry hq18 hs
 obtain⟨J,S,d1,d2,d,ha,r1,r2,e,k⟩:=hq18
 have seq:∀(l:List D) (i:Int),DS.items S d1=some l->d2=.int i->DS.atL l i=some d->wpAny (model X.prog X.w) X.A (subscriptTail value slice v u) (EP X pins σ Q) X.xe s:=fun l i e1 e2 e3=>by
  subst e2
  obtain rfl:=r2
  obtain⟨a,xs,rfl,hq,rl⟩:=zCp ha r1 e1
  obtain⟨j,ej,h⟩:=zZn rl.length e3
  obtain⟨w,ew,rw'⟩:=rl.get ej
  rcases hq with hq|hq
  ·exact zTp value slice pins s σ H _ _ v u Q I rx ry ⟨a,xs,i,w,rfl,rfl,hq,h w ew,k w H ha .refl rw'⟩ hs
  ·exact zXy value slice pins s σ H _ _ v u Q I rx ry ⟨a,xs,i,w,rfl,rfl,hq,h w ew,k w H ha .refl rw'⟩ hs
 unfold DS.ixD at e
 split at e
 ·rename_i l i e1;exact seq l i (zBs (.inl e1)) rfl e
 ·rename_i l i e1;exact seq l i (zBs (.inr e1)) rfl e
 ·rename_i z i e1
  split at e
  ·rename_i hz
   cases e2:DS.atL z.cps.toList i with
   | none=>rw[e2]at e;cases e
   | some c=>
    rw[e2]at e;cases e
    obtain rfl:=zK6 ha r1 e1
    obtain rfl:=r2
    exact zXz value slice pins s σ H _ _ v u Q I rx ry ⟨z,i,c,rfl,rfl,hz,by unfold DS.atL at e2;unfold atI;exact e2,k _ H ha .refl rfl⟩ hs
  ·cases e
 ·rename_i t ks vs kk e1
  split at e
  ·rename_i hk
   obtain⟨a,o,xs,rfl,he,q,rl⟩:=zR8 ha r1 e1
   rcases zUo he q rl r2 hk with⟨_,_,h⟩|⟨w,dv,g,_,h,rw'⟩
   ·rw[h]at e;cases e
   ·rw[h]at e;cases e
    obtain rfl:v=Value.ref a:=rx
    exact tail_any (zGx I g) PySem.F.slot_dict_getitem.lookup (zMp hu I g ry fun w' s3 I3 rw2=>⟨w,H,I3,rw2,k w H ha .refl rw'⟩) hs
  ·cases e
 ·cases e
theorem zB3 {prog:Program}{w:World}{A:Around}{E:Value->Shared->Prop}{s:Shared}{t sl:Addr}{items:Array Value}{vl vu:Value}{lo hi:Option Int}{Q:Value->Shared->Prop}(ht:IsTup s.heap t items) (hs:s.heap.IsSliceOf sl vl vu .none) (pl:IsPart vl lo) (pu:IsPart vu hi)
  (hw:HT.sIx items.size 0 lo=0/\HT.sIx items.size items.size hi=items.size) (h:Q (.ref t) s):wpAny (model prog w) A (getItem (.ref t) (.ref sl)) Q E s:=by
 obtain⟨os,hos,hcs,hds⟩:=id hs
 have hTs:s.TypeIs (.ref sl) "slice":=⟨os,hos,hcs⟩
 unfold getItem
 try with_reducible refine xG ?_
 first|refine xa (xg ?_)|skip
 refine xa (wpAny_sequenceKey ht.typeIs (by decide) ?_)
 refine xa (vG ht.typeIs ud (xW ud ht.typeIs entry_tuple_getitem ?_ (args_tuple_getitem _ _)))
 show wpAny _ _ (Builtin.Tuple.tupleItemsOf (.ref t) >>= _) _ _ s
 refine xa (tupleItemsOf_ ht ?_)
 refine xa (ue hTs ?_)
 rw[xc (by decide)]
 refine xa (HT.sliceApplied_gen hs pl pu ?_)
 show wpAny _ _ (if(((HT.sIx items.size 0 lo:Nat):Int) == 0 && (1:Int) == 1 && (HT.sIx items.size items.size hi-HT.sIx items.size 0 lo) == items.size)=true then _ else _) _ _ s
 rw[xc (by rw[hw.1,hw.2];simp)]
 have tex:∀{Q:Bool->Shared->Prop},Q true s->wpAny (model prog w) A.in1 (Builtin.Tuple.tupleIsExact (.ref t)) Q E s:=fun {Q} q=>by
  unfold Builtin.Tuple.tupleIsExact
  refine xa (ue ht.typeIs (xg ?_))
  exact q
 refine xa (tex ?_)
 rw[xc rfl]
 refine xa (vg ?_)
 exact xg ⟨_,rfl,xg h⟩
theorem zGy {l:List D}{xs:List V}(rl:RepL K J H l xs) (lo hi:Option Int):RepL K J H (DS.cutL l lo hi) (cutV xs lo hi):=by
 unfold DS.cutL cutV
 rw[show DS.sIx l.length 0 lo=HT.sIx xs.length 0 lo by rw[rl.length];rfl,show DS.sIx l.length l.length hi=HT.sIx xs.length xs.length hi by rw[rl.length];rfl]
 exact(rl.drop _).take _
theorem zMq {l:List D}{xs:List V}{lo hi:Option Int}(rl:RepL K J H l xs) (hw:HT.sIx xs.length 0 lo=0/\HT.sIx xs.length xs.length hi=xs.length):DS.cutL l lo hi=l:=by
 unfold DS.cutL
 rw[show DS.sIx l.length 0 lo=HT.sIx xs.length 0 lo by rw[rl.length];rfl,show DS.sIx l.length l.length hi=HT.sIx xs.length xs.length hi by rw[rl.length];rfl,hw.1,hw.2,<- rl.length]
 simp
theorem zCk {l:List D}(ha:AbS K J S H) (r:Rep K J H d v) (e:DS.look S d=some (.lst l)):∃a xs,v=.ref a/\SqL K H a xs/\RepL K J H l xs:=by
 cases d with
 | lst l=>cases e;obtain⟨a,xs,rfl,t,rl⟩:=r;exact⟨a,xs,rfl,t.sq,rl⟩
 | klst l=>cases e;obtain⟨a,xs,rfl,t,rl⟩:=r;exact⟨a,xs,rfl,t.sq,rl⟩
 | ref n=>
  obtain⟨a,ea,rfl⟩:=r
  obtain⟨c,ec,o,eo,rc⟩:=ha.at ea
  have e:S[n]?=_:=e
  rw[ec]at e;cases e
  obtain⟨xs,rfl,rl⟩:=rc
  exact⟨a,xs,rfl,.inl (.inl eo),rl⟩
 | _=>cases e
theorem sl_D (hK:X.K=K:=by rfl):SlR X (slOf K DS.slD):=by
 subst hK
 intro pins s σ H x v vl vu lo hi sl Q I rx hs pl pu hq19
 obtain⟨J,S,d1,d,ha,r1,e,k⟩:=hq19
 unfold DS.slD at e
 split at e
 ·rename_i l
  cases e
  have r0:=r1
  obtain⟨a,xs,rfl,t,rl⟩:=r1
  by_cases hw:HT.sIx xs.length 0 lo=0/\HT.sIx xs.length xs.length hi=xs.length
  ·cases rx
   obtain⟨its,r,ht,hz⟩:=I.tuple t.sq
   have hlen:its.toArray.size=xs.length:=by rw[xu];exact r.length.symm
   refine⟨"tuple",_,ud.lookup,ht.typeIs,zB3 ht hs pl pu (by rw[hlen];exact hw) ⟨.ref a,H,I,rfl,k _ H ha .refl ?_⟩⟩
   rw[zMq rl hw];exact r0
  ·exact zQb pins s σ H _ v vl vu lo hi sl Q I rx hs pl pu ⟨a,xs,rfl,t.sq,hw,fun p n=>k _ _ (ha.push n) (.push n) ⟨p,_,rfl,⟨zA5,ha.out n⟩,RepL.grow (.push n) _ _ (zGy rl lo hi)⟩⟩
 ·rename_i l
  have r0:=r1
  obtain⟨a,xs,rfl,t,rl⟩:=r1
  split at e
  ·rename_i hw
   cases e
   have hw:HT.sIx xs.length 0 lo=0/\HT.sIx xs.length xs.length hi=xs.length:=by rw[<- rl.length];exact hw
   cases rx
   obtain⟨its,r,ht,hz⟩:=I.tuple (t.sq)
   have hlen:its.toArray.size=xs.length:=by rw[xu];exact r.length.symm
   exact⟨"tuple",_,ud.lookup,ht.typeIs,zB3 ht hs pl pu (by rw[hlen];exact hw) ⟨.ref a,H,I,rfl,k _ H ha .refl r0⟩⟩
  ·rename_i hw
   cases e
   have hw:¬ (HT.sIx xs.length 0 lo=0/\HT.sIx xs.length xs.length hi=xs.length):=by rw[<- rl.length];exact hw
   exact zQb pins s σ H _ v vl vu lo hi sl Q I rx hs pl pu ⟨a,xs,rfl,t.sq,hw,fun p n=>k _ _ (ha.push n) (.push n) ⟨p,_,rfl,⟨zA5,ha.out n⟩,RepL.grow (.push n) _ _ (zGy rl lo hi)⟩⟩
 ·split at e
  ·rename_i l e1
   cases e
   obtain⟨a,xs,rfl,t,rl⟩:=zCk ha r1 e1
   exact zRr pins s σ H _ v vl vu lo hi sl Q I rx hs pl pu ⟨a,xs,rfl,t,fun p n=>k _ _ (ha.push n) (.push n) ⟨p,_,rfl,⟨zA5,ha.out n⟩,RepL.grow (.push n) _ _ (zGy rl lo hi)⟩⟩
  ·cases e
end
end L2
namespace L2
open PySem PySem.Spec PyProof.Rows
open DS (D Store Exn Rs SR)
section
variable {X:Cx}{K:PySem.W.Frag}{E:XE}{J:Js}{S:Store}{H:Hp}{d d1 d2:D}{v:V}
noncomputable def pOf (K:PySem.W.Frag) (g:Store->D->D->D->Option Store):TSet:=fun o i v H Q=>∃J S d1 d2 d3 S',AbS K J S H/\Rep K J H d1 o/\Rep K J H d2 i/\Rep K J H d3 v/\g S d1 d2 d3=some S'/\∀H',AbS K J S' H'->Grow J H J H'->Q H'
open Classical in
theorem zWc {κ:Type}[DecidableEq κ] {f:κ->D}(fi:∀a b,f a=f b->a=b) {k:κ}{dv:D}{w:V}{kvs:List (κ × V)}{vs:List D}(r:RepL K J H vs (kvs.map (·.2))) (rv:Rep K J H dv w):
  (DS.put2 (kvs.map fun p=>f p.1) vs (f k) dv).1=(putK kvs k w).map (fun p=>f p.1)/\RepL K J H (DS.put2 (kvs.map fun p=>f p.1) vs (f k) dv).2 ((putK kvs k w).map (·.2)):=by
 have any_iff:(kvs.any fun kv=>decide (kv.1=k))=true <-> f k∈kvs.map fun p=>f p.1:=by
  simp only[uW,decide_eq_true_eq,xB]
  constructor
  ·rintro⟨p,hp,e⟩;exact⟨p,hp,by rw[e]⟩
  ·rintro⟨p,hp,e⟩;exact⟨p,hp,fi _ _ e⟩
 unfold DS.put2 putK
 by_cases hm:f k∈kvs.map fun p=>f p.1
 ·rw[xc hm,xc (any_iff.mpr hm)]
  refine⟨?_,?_⟩
  ·rw[vd]
   refine List.map_congr_left fun p _=>?_
   show f p.1=f (if p.1=k then(p.1,w)else p).1
   split <;> rfl
  ·clear hm any_iff
   induction kvs generalizing vs with
   | nil=>cases vs <;> rfl
   | cons p kvs ih=>
    cases vs with
    | nil=>cases r
    | cons dw vs=>
     obtain⟨x,t,e,h,rl⟩:=r
     have e:=uk (e)
     obtain⟨rfl,rfl⟩:=e
     refine⟨(if p.1=k then(p.1,w)else p).2,_,rfl,?_,ih rl⟩
     by_cases z:p.1=k
     ·rw[xc z,xc (show f p.1=f k by rw[z])];exact rv
     ·rw[xf z,xf fun q=>z (fi _ _ q)];exact h
 ·rw[xf hm,xf (fun z=>hm (any_iff.mp z))]
  refine⟨by simp,?_⟩
  rw[vk]
  exact r.snoc rv
theorem zUg {o i e:Expr}{mo mi m:DS.EM}{sp2 pos:Pos}{g:Store->D->D->D->Option Store}(hs:PSet X (pOf K g)) (ho:DE X K E o mo) (hi:DE X K E i mi) (he:DE X K E e m) (h:nsl i=true:=by rfl) (h2:nco e=true:=by rfl):DS1 X K E (.Assign [.Subscript o i sp2] e pos) (DS.sPut g mo mi m):=
 ⟨(qasgs' he.h (zSm ho.h hi.h hs h) h2).imp fun D σ H ⟨env,S,J,ha,he,q⟩=>⟨env,S,J,ha,he,q.then.imp fun dv S1 J1 H1 _ a1 g1 q1 v rv=>⟨env,S1,J1,a1,he.grow g1,q1.then.imp fun dx S2 J2 H2 _ a2 g2 q2 x rx=>
  ⟨env,S2,J2,a2,he.grow (g1.trans g2),q2.then.imp fun di S3 J3 H3 _ a3 g3 q3 y ry=>by
   cases e1:g S3 dx di dv with
   | none=>rw[e1]at q3;exact False.elim q3
   | some S4=>
    rw[e1]at q3
    exact⟨J3,S3,dx,di,dv,S4,a3,Rep.grow g3 _ _ rx,ry,Rep.grow (g2.trans g3) _ _ rv,e1,fun H' h1 h2=>q3 J3 H' σ h1 h2 (he.grow (g1.trans (g2.trans (g3.trans h2))))⟩⟩⟩⟩⟩
theorem zBa {ds:List D}{xs:List V}{d:D}(r:RepL K J H [d] xs):∃x,xs=[x]/\Rep K J H d x:=by
 obtain⟨x,t,rfl,h,rfl⟩:=r
 exact⟨x,rfl,h⟩
theorem zZg {pins:List (Addr × Obj)}{σ:St}{s:Shared}{a:Addr}{kvs:List (List Key × V)}{Q:Value->Shared->Prop}{A:Around}{E:Value->Shared->Prop}(I:Inv X pins σ H s) (e:Rd H a (.dT kvs)) (h:∀t s',Inv X pins σ H s'->Q (.int kvs.length t) s'):wpAny (model X.prog X.w) A (call (.builtin "len") [.ref a]) Q E s:=by
 obtain⟨z,hd,xs,rel,dd⟩:=zUd I.hok e
 have hT:=dd.typeIs
 obtain⟨o,es,ep,ho,hx,hdat,hes,hall,hn⟩:=dd
 have hsz:es.size=kvs.length:=by rw[<- uq,hes,xq,<- Paired.length rel]
 rw[xZ]at z
 have mt:MeetsIn X.prog X.w (Builtin.«dict.__len__» ⟨[.ref a],[]⟩) (fun _ R s'=>s'=s/\R (.ok (.ret (.int kvs.length s'.toks))) { s' with toks:=s'.toks+1 }):=.of_wp fun A R s' hq20=>by
  obtain⟨e,h⟩:=hq20
  subst e
  show wpAny _ _ (dictSize a >>= _) _ _ s'
  unfold dictSize
  refine xa (xa (wpAny_dictEntries ho hdat (xg ?_)))
  show wpAny _ _ (Builtin.Dict.pendingCount a >>= _) _ _ s'
  refine xa (wpAny_pendingCount_other hd ?_)
  refine wpAny_ret_mkInt ?_
  rw[Nat.add_zero,hsz];exact h
 refine Calls.call_function_entry kind_len plain_len entry_len (args_len1 _) ?_
 unfold Builtin.«len»
 refine xa (xg ?_)
 refine xa (vG hT PySem.F.slot_dict_len (call_meetsIn PySem.F.slot_dict_len hT PySem.F.entry_dict_len (PySem.F.args_dict_len_1 _) mt ⟨rfl,?_⟩))
 show wpAny _ _ _ _ _ { s with toks:=s.toks+1 }
 refine xa (xG (xg ?_))
 refine xa (wpAny_letGo ?_)
 show wpAny _ _ (if((kvs.length:Nat):Int)<0 then _ else _) _ _ _
 rw[xf (by nofun)]
 show wpAny _ _ (if((kvs.length:Nat):Int) >= 2 ^ 63 then _ else _) _ _ _
 rw[xf (by nofun)]
 exact xa (wpAny_mkInt (xg ⟨_,rfl,h _ _ (I.tok _)⟩))
theorem zJp (hK:X.K=K:=by rfl):zAu X (.builtin "len") (cOf K DS.lenB):=by
 subst hK
 intro pins s σ H xs us Q I r hq21
 obtain⟨J,S,ds,d,ha,rl,e,k⟩:=hq21
 unfold DS.lenB at e
 split at e
 ·rename_i d0
  obtain⟨x,rfl,rx⟩:=zBa (ds:=[]) rl
  have seq:∀l,DS.items S d0=some l->d=.int l.length->wpAny (model X.prog X.w) X.A (call (.builtin "len") us) (EP X pins σ Q) X.xe s:=fun l e1 e2=>by
   subst e2
   obtain⟨a,ys,rfl,hq,q⟩:=zCp ha rx e1
   exact zFy pins s σ H _ us Q I r ⟨a,ys,rfl,hq,k _ H ha .refl (by rw[q.length];rfl)⟩
  split at e
  ·rename_i l e1;cases e;exact seq l (zBs (.inl e1)) rfl
  ·rename_i l e1;cases e;exact seq l (zBs (.inr e1)) rfl
  ·rename_i t ks vs e1
   cases e
   obtain⟨a,o,ys,rfl,he,q,_⟩:=zR8 ha rx e1
   obtain⟨u,rfl,ru⟩:=vals1 r
   cases ru
   rcases q with⟨rfl,kvs,rfl,rfl,rfl⟩|⟨rfl,kvs,rfl,rfl,rfl⟩
   ·exact yBc I he fun t s' I'=>⟨.int kvs.length,H,I',⟨t,rfl⟩,k _ H ha .refl (by rw[xq];rfl)⟩
   ·exact zZg I he fun t s' I'=>⟨.int kvs.length,H,I',⟨t,rfl⟩,k _ H ha .refl (by rw[xq];rfl)⟩
  ·rename_i z e1
   split at e
   ·rename_i hz
    cases e
    obtain rfl:=zK6 ha rx e1
    exact zFx pins s σ H _ us Q I r ⟨z,rfl,hz,k _ H ha .refl rfl⟩
   ·cases e
  ·cases e
 ·cases e
theorem zFv (hK:X.K=K:=by rfl):zAu X (.type "tuple") (cOf K DS.zB1):=by
 subst hK
 intro pins s σ H xs us Q I r hq22
 obtain⟨J,S,ds,d,ha,rl,e,k⟩:=hq22
 unfold DS.zB1 at e
 split at e
 ·rename_i d0
  obtain⟨x,rfl,rx⟩:=zBa (ds:=[]) rl
  split at e
  ·rename_i l
   cases e
   have r0:=rx
   obtain⟨a,ys,rfl,t,q⟩:=rx
   exact zBd pins s σ H _ us Q I r ⟨a,ys,rfl,.inr ⟨t.sq,k _ H ha .refl r0⟩⟩
  ·rename_i l
   cases e
   have r0:=rx
   obtain⟨a,ys,rfl,t,q⟩:=rx
   exact zBd pins s σ H _ us Q I r ⟨a,ys,rfl,.inr ⟨t.sq,k _ H ha .refl r0⟩⟩
  ·cases e1:DS.litems S d0 with
   | none=>rw[e1]at e;cases e
   | some l=>
    rw[e1]at e;cases e
    obtain⟨a,ys,rfl,hq,q⟩:=zBb ha rx e1
    exact zBd pins s σ H _ us Q I r ⟨a,ys,rfl,.inl ⟨.inl hq,fun p n=>k _ _ (ha.push n) (.push n) ⟨p,ys,rfl,⟨zA5,ha.out n⟩,RepL.grow (.push n) _ _ q⟩⟩⟩
 ·cases e
theorem zIm:∀{l:List D}{xs:List V}{bs:List Bool},RepL K J H l xs->DS.bools l=some bs->xs=bs.map V.bl
 | [],_,_,r,e=>by cases e;exact r
 | d::l,_,bs,⟨x,t,e0,h,rl⟩,e=>by
  subst e0
  cases d with
  | bl b=>
   unfold DS.bools at e
   cases e1:DS.bools l with
   | none=>rw[e1]at e;cases e
   | some cs=>rw[e1]at e;cases e;rw[zIm rl e1,show x=.bl b from h];rfl
  | _=>cases e
theorem zJs (hc:X.calm=true) (hK:X.K=K:=by rfl):zAu X (.builtin "all") (cOf K DS.allB):=by
 subst hK
 intro pins s σ H xs us Q I r hq23
 obtain⟨J,S,ds,d,ha,rl,e,k⟩:=hq23
 unfold DS.allB at e
 split at e
 ·rename_i d0
  obtain⟨x,rfl,rx⟩:=zBa (ds:=[]) rl
  cases e1:DS.litems S d0 with
  | none=>rw[e1]at e;cases e
  | some l=>
   rw[e1]at e
   cases e2:DS.bools l with
   | none=>simp[e2]at e
   | some bs=>
    simp only[Option.bind_some,e2,vX,Option.some.injEq]at e
    subst e
    obtain⟨a,ys,rfl,hq,q⟩:=zBb ha rx e1
    obtain rfl:=zIm q e2
    exact zN6 hc pins s σ H _ us Q I r ⟨a,bs,rfl,.inl hq,k _ H ha .refl rfl⟩
 ·cases e
theorem zK0 {d1 d2:D}{xs:List V}(r:RepL K J H [d1,d2] xs):∃x y,xs=[x,y]/\Rep K J H d1 x/\Rep K J H d2 y:=by
 obtain⟨x,t,rfl,h,y,t',rfl,h',rfl⟩:=r
 exact⟨x,y,rfl,h,h'⟩
theorem zJo (hc:X.calm=true):zAu X (.builtin "max") (cOf K DS.max2B):=by
 intro pins s σ H xs us Q I r hq24
 obtain⟨J,S,ds,d,ha,rl,e,k⟩:=hq24
 unfold DS.max2B at e
 split at e
 ·obtain⟨x,y,rfl,rx,ry⟩:=zK0 rl
  obtain rfl:=rx;obtain rfl:=ry
  cases e
  exact zN3 hc pins s σ H _ us Q I r ⟨_,_,rfl,k _ H ha .refl (congrArg V.int (by congr))⟩
 ·cases e
theorem zJ7:MtR X "list.append" (mOf K DS.zB8):=by
 intro pins s σ H x xs v us Q I rx rs hq25
 obtain⟨J,S,d1,ds,d,S',ha,r1,rl,e,k⟩:=hq25
 unfold DS.zB8 at e
 split at e
 ·rename_i n dv
  obtain⟨a,ea,rfl⟩:=r1
  obtain⟨c,ec,ob,eo,rc⟩:=ha.at ea
  obtain⟨y,rfl,ry⟩:=zBa (ds:=[]) rl
  split at e
  ·rename_i l es
   rw[ec]at es;cases es
   obtain⟨ys,rfl,rl⟩:=rc
   split at e
   ·rename_i hz
    cases e
    exact zLl pins s σ H _ _ v us Q I rx rs ⟨a,ys,y,rfl,rfl,eo,by rw[<- rl.length];exact hz,k _ _ (ha.write ea ⟨_,rfl,rl.snoc ry⟩) (.write ea) rfl⟩
   ·cases e
  ·cases e
 ·cases e
theorem zTf:MtR X "list.pop" (mOf K DS.popM):=by
 intro pins s σ H x xs v us Q I rx rs hq26
 obtain⟨J,S,d1,ds,d,S',ha,r1,rl,e,k⟩:=hq26
 unfold DS.popM at e
 split at e
 ·rename_i n
  obtain⟨a,ea,rfl⟩:=r1
  obtain⟨c,ec,ob,eo,rc⟩:=ha.at ea
  obtain rfl:=rl
  split at e
  ·rename_i l es
   rw[ec]at es;cases es
   obtain⟨ys,rfl,rl⟩:=rc
   cases e1:l[l.length-1]? with
   | none=>rw[e1]at e;cases e
   | some w=>
    rw[e1]at e
    simp only[vX,Option.some.injEq,Prod.mk.injEq]at e
    obtain⟨rfl,rfl⟩:=e
    obtain⟨y,ey,ry⟩:=rl.get e1
    have g:Grow J H J (upd H a (.lst ys.dropLast)):=.write ea
    exact zXj pins s σ H _ _ v us Q I rx rs ⟨a,ys,y,rfl,rfl,eo,by rw[<- rl.length];exact ey,k _ _ (ha.write ea ⟨_,rfl,rl.dropLast⟩) g (Rep.grow g _ _ ry)⟩
  ·cases e
 ·cases e
end
end L2
namespace L2
open PySem PySem.Spec PyProof.Rows
open DS (D Store Exn Rs SR)
section
variable {X:Cx}{K:PySem.W.Frag}{E:XE}{J:Js}{S:Store}{H:Hp}{d d1 d2:D}{v:V}
theorem zLx {tg:Expr}{pins:List (Addr × Obj)}{s1:Shared}{σ:St}{H1:Hp}{R:It->Hp->Prop}{a:Addr}{xs:List V}(I1:Inv X pins σ H1 s1) (hq:SqL X.K H1 a xs) (q:R (Itl X.K a) H1):wpAny (model X.prog X.w) X.A (pyIter (.ref a)) (PIE X pins σ tg R) X.xe s1:=by
 obtain⟨its,rv,p,hz⟩:=I1.list hq
 refine uO p.isList ?_
 refine⟨s1.heap.objs.size,[s1.heap.objs.size],_,_,H1,rfl,I1.kept fun b o e=>xi _ e,zK1 a _,⟨_,xw _ rfl,rfl,rfl⟩,fun b hb=>?_,q⟩
 have e:b=s1.heap.objs.size:=by simpa using hb
 subst e
 exact I1.fpOk (xh _) (I1.hok.fresh (xh _))
theorem zP6 {tg:Expr}{pins:List (Addr × Obj)}{s1:Shared}{σ:St}{H1:Hp}{R:It->Hp->Prop}{a:Addr}{xs:List V}(I1:Inv X pins σ H1 s1) (hq:SqT X.K H1 a xs) (q:R (Itt X.K a) H1):wpAny (model X.prog X.w) X.A (pyIter (.ref a)) (PIE X pins σ tg R) X.xe s1:=by
 obtain⟨its,rv,p,hz⟩:=I1.tuple hq
 refine wpAny_pyIter_tuple (p) ?_
 refine⟨s1.heap.objs.size,[s1.heap.objs.size],_,_,H1,rfl,I1.kept fun b o e=>xi _ e,zIx a _,⟨_,xw _ rfl,rfl,rfl⟩,fun b hb=>?_,q⟩
 have e:b=s1.heap.objs.size:=by simpa using hb
 subst e
 exact I1.fpOk (xh _) (I1.hok.fresh (xh _))
theorem zP7 {tg:Expr}{pins:List (Addr × Obj)}{s1:Shared}{σ:St}{H1:Hp}{R:It->Hp->Prop}{z:Str}{t:Tok}(I1:Inv X pins σ H1 s1) (ha:z.cps.all (·<128)=true) (q:R (Its z) H1):wpAny (model X.prog X.w) X.A (pyIter (.str z t)) (PIE X pins σ tg R) X.xe s1:=by
 refine wpAny_pyIter_ascii ha ?_
 refine⟨s1.heap.objs.size,[s1.heap.objs.size],_,Its z,H1,rfl,I1.kept fun b o e=>xi _ e,zNh s1.heap.objs.size z t,⟨x8 _,_,xw _ rfl,rfl,rfl⟩,fun b hb=>?_,q⟩
 have e:b=s1.heap.objs.size:=by simpa using hb
 subst e
 exact I1.fpOk (xh _) (I1.hok.fresh (xh _))
theorem stays_list {l:List D}(ha:AbS K J S H) (r:Rep K J H d v) (e:DS.look S d=some (.lst l)):∃a xs,v=.ref a/\SqL K H a xs/\∀J' H' S',Grow J H J' H'->AbS K J' S' H'->DS.gOk S' (DS.gdOf S d)->∃ys,SqL K H' a ys/\RepL K J' H' l ys:=by
 cases d with
 | lst l=>cases e;obtain⟨a,xs,rfl,t,rl⟩:=r;exact⟨a,xs,rfl,t.sq,fun J' H' S' g _ _=>⟨xs,(t.grow g).sq,RepL.grow g _ _ rl⟩⟩
 | klst l=>cases e;obtain⟨a,xs,rfl,t,rl⟩:=r;exact⟨a,xs,rfl,t.sq,fun J' H' S' g _ _=>⟨xs,(t.grow g).sq,RepL.grow g _ _ rl⟩⟩
 | ref n=>
  obtain⟨a,ea,rfl⟩:=r
  obtain⟨c,ec,o,eo,rc⟩:=ha.at ea
  have e:S[n]?=_:=e
  rw[ec]at e;cases e
  obtain⟨xs,rfl,rl⟩:=rc
  refine⟨a,xs,rfl,.inl (.inl eo),fun J' H' S' g ha' gd=>?_⟩
  have e':=gd (n,.lst l) (by simp[DS.gdOf,ec])
  obtain⟨o',eo',rc'⟩:=ha'.ob n a _ (g.pre n a ea) e'
  obtain⟨ys,rfl,rl'⟩:=rc'
  exact⟨ys,.inl (.inl eo'),rl'⟩
 | _=>cases e
theorem stays_tup {l:List D}(ha:AbS K J S H) (r:Rep K J H d v) (e:DS.look S d=some (.tup l)):∃a xs,v=.ref a/\SqT K H a xs/\∀J' H',Grow J H J' H'->SqT K H' a xs/\RepL K J' H' l xs:=by
 cases d with
 | tup l=>cases e;obtain⟨a,xs,rfl,t,rl⟩:=r;exact⟨a,xs,rfl,t.sq,fun J' H' g=>⟨(t.grow g).sq,RepL.grow g _ _ rl⟩⟩
 | ktup l=>cases e;obtain⟨a,xs,rfl,t,rl⟩:=r;exact⟨a,xs,rfl,t.sq,fun J' H' g=>⟨t.sq,RepL.grow g _ _ rl⟩⟩
 | ref n=>
  obtain⟨a,ea,rfl⟩:=r
  obtain⟨c,ec,o,eo,rc⟩:=ha.at ea
  have e:S[n]?=_:=e
  rw[ec]at e;cases e
  exact False.elim rc
 | _=>cases e
theorem zTr {a:Addr}{l:List D}{gd:List (Nat × D)}(h:∀J' H' S',Grow J H J' H'->AbS K J' S' H'->DS.gOk S' gd->∃ys,SqL K H' a ys/\RepL K J' H' l ys):ItOk K J H ⟨l,gd⟩ (Itl K a) where
 go:=fun i H' J' S' ha g gd hi=>by
  obtain⟨ys,q,rl⟩:=h J' H' S' g ha gd
  exact⟨ys,ys[i]'(by rw[<- rl.length];exact hi),q,xC _⟩
 yld:=fun i H' J' S' x H'' ha g gd y d ed=>by
  obtain⟨rfl,y⟩:=y
  obtain⟨ys,q,rl⟩:=h J' H'' S' g ha gd
  obtain⟨x',ex,rx⟩:=rl.get ed
  rw[y ys q]at ex;cases ex
  exact⟨ha,.refl,rx⟩
 stop:=fun i H' J' S' ha g gd hi=>by
  obtain⟨ys,q,rl⟩:=h J' H' S' g ha gd
  exact⟨ys,q,by rw[<- rl.length];exact hi⟩
theorem zY3 {a:Addr}{xs:List V}{l:List D}{gd:List (Nat × D)}(h:∀J' H',Grow J H J' H'->SqT K H' a xs/\RepL K J' H' l xs):ItOk K J H ⟨l,gd⟩ (Itt K a) where
 go:=fun i H' J' S' ha g gd hi=>by
  obtain⟨q,rl⟩:=h J' H' g
  exact⟨xs,xs[i]'(by rw[<- rl.length];exact hi),q,xC _⟩
 yld:=fun i H' J' S' x H'' ha g gd y d ed=>by
  obtain⟨rfl,y⟩:=y
  obtain⟨q,rl⟩:=h J' H'' g
  obtain⟨x',ex,rx⟩:=rl.get ed
  rw[y xs q]at ex;cases ex
  exact⟨ha,.refl,rx⟩
 stop:=fun i H' J' S' ha g gd hi=>by
  obtain⟨q,rl⟩:=h J' H' g
  exact⟨xs,q,by rw[<- rl.length];exact hi⟩
theorem zY4 {x:Str}:ItOk K J H ⟨DS.chars x,[]⟩ (Its x) where
 go:=fun i H' J' S' ha g gd hi=>by
  have:(DS.chars x).length=x.cps.size:=by simp[DS.chars]
  show i<x.cps.size
  rw[<- this];exact hi
 yld:=fun i H' J' S' y H'' ha g gd yl d ed=>by
  obtain⟨rfl,c,ec,rfl⟩:=yl
  have e:(DS.chars x)[i]?=some (D.str ⟨#[c]⟩):=by
   unfold DS.chars
   rw[vp,uH,ec];rfl
  rw[e]at ed;cases ed
  exact⟨ha,.refl,rfl⟩
 stop:=fun i H' J' S' ha g gd hi=>by
  have:(DS.chars x).length=x.cps.size:=by simp[DS.chars]
  show x.cps.size<=i
  rw[<- this];exact hi
theorem zYz {tg e:Expr}{m:DS.EM}(he:DE X K E e m) (hK:X.K=K:=by rfl):DI X K E tg e (DS.iVal m):=by
 subst hK
 refine⟨⟨fun pins s σ H R I hq1=>?_⟩⟩
 obtain⟨env,S,J,ha,hE,q⟩:=hq1
 refine thn (he.h.h pins s σ H (fun x H1=>∃J1 S1 d w,AbS X.K J1 S1 H1/\Rep X.K J1 H1 d x/\DS.zCg S1 d=some w/\∀It,ItOk X.K J1 H1 w It->R It H1) I ⟨env,S,J,ha,hE,q.bind.imp fun d S1 J1 H1 _ a1 g1 q1 x rx=>?_⟩) fun v s1 hq1=>?_
 ·obtain⟨w,ew,k⟩:=q1.lift
  exact⟨J1,S1,d,w,a1,rx,ew,k J1 H1 a1 .refl⟩
 ·obtain⟨x,H1,I1,r1,J1,S1,d,w,a1,rx,ew,k⟩:=hq1
  unfold DS.zCg at ew
  split at ew
  ·rename_i l el
   cases ew
   obtain⟨a,xs,rfl,hq,st⟩:=stays_tup a1 rx el
   cases r1
   exact zP6 I1 hq (k _ (zY3 st))
  ·rename_i l el
   cases ew
   obtain⟨a,xs,rfl,hq,st⟩:=stays_list a1 rx el
   cases r1
   exact zLx I1 hq (k _ (zTr st))
  ·rename_i z ez
   split at ew
   ·rename_i hz
    cases ew
    obtain rfl:=zK6 a1 rx ez
    obtain⟨t,rfl⟩:=r1
    exact zP7 I1 hz (k _ zY4)
   ·cases ew
  ·cases ew
theorem zP9 {lo:Int}{n:Nat}:ItOk K J H ⟨(List.range n).map fun(k:Nat)=>D.int (lo+k),[]⟩ (Itr lo n) where
 go:=fun i H' J' S' ha g gd hi=>by show i<n;simpa using hi
 yld:=fun i H' J' S' y H'' ha g gd yl d ed=>by
  obtain⟨rfl,rfl⟩:=yl
  rw[vp]at ed
  by_cases hi:i<n
  ·rw[List.getElem?_range hi]at ed
   cases ed
   exact⟨ha,.refl,rfl⟩
  ·rw[vC (by simpa using hi)]at ed
   cases ed
 stop:=fun i H' J' S' ha g gd hi=>by show n<=i;simpa using hi
theorem fits_of {i:Int}(h:DS.fits62 i=true):-(2 ^ 62)<=i/\i<2 ^ 62:=uQ h
theorem zMl {tg a:Expr}{p pos:Pos}{am:DS.AM}(hg:Gl X "range") (hm:X.mg "range"=none) (ha:DA X K E [a] am) (h:nst a=true:=by rfl):DI X K E tg (.Call (.Name "range" p) [a] [] pos) (DS.zFo am):=
 ⟨(qrange1' hg hm ha.h h).imp fun σ H R ⟨env,S,J,h,hE,q⟩=>⟨env,S,J,h,hE,q.bind.imp fun ds S1 J1 H1 e1 a1 g1 q1 xs rx=>by
  obtain⟨w,ew,k⟩:=q1.lift
  have hl:=ha.len _ _ _ _ e1
  match ds,hl with
  | [d],_=>
   obtain⟨x,rfl,r⟩:=zBa (ds:=[]) rx
   cases d with
   | int j=>
    unfold DS.zEe at ew
    simp only at ew
    by_cases hf:DS.fits62 j=true
    ·rw[xc hf]at ew;cases ew
     obtain rfl:=r
     refine⟨j,rfl,(fits_of hf).1,(fits_of hf).2,k J1 H1 a1 .refl _ ?_⟩
     have e:DS.zDn 0 j=(List.range j.toNat).map fun(k:Nat)=>D.int (0+k):=by unfold DS.zDn;rw[Int.sub_zero]
     rw[e]
     exact zP9
    ·rw[xf hf]at ew;cases ew
   | _=>cases ew⟩⟩
theorem zJj {e:Expr}{m:DS.EM}{p p2 pos pos2:Pos}(hc:X.calm=true) (he:DE X K E e m) (hgl:Gl X "list") (hml:X.mg "list"=none) (hgr:Gl X "reversed") (hmr:X.mg "reversed"=none) (h:nst e=true:=by rfl) (hK:X.K=K:=by rfl):
  DF X K E (.Call (.Name "list" p) [.Call (.Name "reversed" p2) [e] [] pos2] [] pos) (DS.eUn DS.revL m):=by
 subst hK
 refine⟨(qlistrev' hc he.h hgl hml hgr hmr h).imp fun σ H Q ⟨env,S,J,ha,hE,q⟩=>⟨env,S,J,ha,hE,q.bind.imp fun d S1 J1 H1 _ a1 g1 q1 x rx=>?_⟩⟩
 obtain⟨c,ec,k⟩:=q1.lift
 unfold DS.revL at ec
 split at ec
 ·rename_i l el
  cases ec
  obtain⟨a,xs,rfl,hq,rl⟩:=zCk a1 rx el
  exact⟨a,xs,rfl,hq,fun p n=>k J1 H1 a1 .refl p _ n ⟨_,rfl,rl.reverse⟩⟩
 ·cases ec
structure DPs (X:Cx) (K:PySem.W.Frag) (E:XE) (pos:Pos) (keys:List (Option Expr)) (values:List Expr) (ks:List Key) (am:DS.AM):Prop where
 ex:∃trs,SPs X pos keys values trs/\∀σ H Q,(∃env S J,AbS K J S H/\RepE K J H env σ/\Post K E J H (am env S) (fun vs _ J' H'=>∀xs,RepL K J' H' vs xs->Q ((ks.map kV).zip xs) H'))->zHk trs σ H Q
 len:∀env S ds S',am env S=.ok ds S'->ds.length=ks.length
theorem zUk {pos:Pos}:DPs X K E pos [] [] [] DS.aNil:=⟨⟨[],zO8,fun σ H Q hz6=>by obtain⟨env,S,J,ha,he,q⟩:=hz6;exact q J H ha .refl [] rfl⟩,fun _ _ _ _ e=>by cases e;rfl⟩
theorem zPq {pos kp:Pos}{x:Str}{j:_}{v:Expr}{ks:List (Option Expr)}{vs:List Expr}{kl:List Key}{m:DS.EM}{am:DS.AM}(hv:DE X K E v m) (hr:DPs X K E pos ks vs kl am):DPs X K E pos (some (.Constant (.str x) j kp)::ks) (v::vs) (.inr x::kl) (DS.zA0 m am):=by
 obtain⟨trs,hp,hq⟩:=hr.ex
 refine⟨⟨_,zKt (zL0) hv.h hp,fun σ H Q ⟨env,S,J,ha,he,q⟩=>⟨env,S,J,ha,he,q.bind.imp fun d S1 J1 H1 _ a1 g1 q1 y ry=>hq σ H1 _ ⟨env,S1,J1,a1,he.grow g1,q1.bind.imp fun ds S2 J2 H2 _ a2 g2 q2 xs rx=>
  q2 J2 H2 a2 .refl (y::xs) ⟨y,xs,rfl,Rep.grow g2 _ _ ry,rx⟩⟩⟩⟩,fun env S ds S' e1=>?_⟩
 unfold DS.zA0 at e1
 cases e2:m env S with
 | ok d S1=>
  rw[e2,Rs.bind_ok]at e1
  cases e3:am env S1 with
  | ok dr S2=>rw[e3,Rs.bind_ok]at e1;cases e1;simp[hr.len _ _ _ _ e3]
  | _=>rw[e3]at e1;cases e1
 | _=>rw[e2]at e1;cases e1
theorem zDp:∀{kvs acc:List (Key × V)},((acc++kvs).map (·.1)).Nodup->zCj acc kvs=acc++kvs
 | [],acc,_=>by simp[zCj]
 | p::kvs,acc,h=>by
  have hn:(acc.any fun kv=>decide (kv.1=p.1))=false:=by
   rw[uD]
   intro z
   obtain⟨q,hq,e⟩:=uW.mp z
   rw[vk,xx]at h
   exact(List.nodup_append.mp h).2.2 q.1 (xB.mpr ⟨q,hq,rfl⟩) p.1 (xN ..) (uQ e)
  have e:putK acc p.1 p.2=acc++[p]:=by unfold putK;rw[hn];rfl
  show zCj (putK acc p.1 p.2) kvs=_
  rw[e,zDp (by simpa using h)]
  simp
theorem zUu {pos:Pos}{keys:List (Option Expr)}{values:List Expr}{kl:List Key}{ks:List D}{am:DS.AM}(h:DPs X K E pos keys values kl am) (hk:ks=kl.map keyD) (nd:kl.Nodup) (hall:keys.all (·.isSome)=true:=by rfl) (hl:keys.length=values.length:=by rfl) (h0:keys≠[]:=by intro z;cases z) (h15:keys.length<=15:=by decide) (hz:kl.length<=15:=by decide):
  DE X K E (.Dict keys values pos) (DS.zPj ks am):=by
 subst hk
 obtain⟨trs,hp,hq⟩:=h.ex
 refine⟨(zOl hp hall hl h0 h15).imp fun σ H Q ⟨env,S,J,ha,he,q⟩ p n=>hq σ _ _ ⟨env,S++[.dct false [] []],J++[p],ha.name (d:=.dct false [] []) n ⟨[],.inl ⟨rfl,[],rfl,rfl,rfl⟩,rfl⟩,he.grow (.name n),(Post.grow (Grow.name n) q).bind.imp fun vs S1 J1 H1 e1 a1 g1 q1 xs rx=>?_⟩⟩
 have ep:(J++[p])[S.length]?=some p:=by rw[<- ha.len,vA (xh _)];simp
 have ep1:=g1.pre _ _ ep
 have hlen:=h.len _ _ _ _ e1
 by_cases hc:S1[S.length]?=some (.dct false [] [])
 ·rw[xc hc]at q1
  obtain⟨o,eo,rc⟩:=a1.ob _ _ _ ep1 hc
  obtain⟨zs,t,_⟩:=rc
  have ho:o=.dK []:=by
   rcases t with⟨_,kvs,rfl,e,_⟩|⟨z,_⟩
   ·cases kvs with
    | nil=>rfl
    | cons a r=>cases e
   ·cases z
  subst ho
  have lx:kl.length=xs.length:=by rw[<- hlen];exact rx.length
  have m1:(kl.zip xs).map (·.1)=kl:=by rw[List.map_fst_zip (by nofun)]
  have m2:(kl.zip xs).map (·.2)=xs:=by rw[List.map_snd_zip (by nofun)]
  refine⟨eo,kl.zip xs,?_,?_,?_⟩
  ·rw[List.zip_map_left]
   rfl
  ·rw[List.length_zip];lia
  ·rw[zDp (by rw[vY,m1];exact nd),vY]
   refine q1 J1 _ (a1.write ep1 ⟨xs,.inl ⟨rfl,_,rfl,?_,m2.symm⟩,rx⟩) (.write ep1) (.ref p) ⟨p,ep1,rfl⟩
   rw[show kl.map keyD=((kl.zip xs).map (·.1)).map keyD by rw[m1],vd]
   rfl
 ·rw[xf hc]at q1;exact False.elim q1
end
end L2
namespace L2
theorem len0 {α:Type}:∀{l:List α},l.length=0->l=[]
 | [],_=>rfl
 | _::_,h=>nomatch h
theorem lenS {α:Type}{n:Nat}{l:List α}(h:l.length=n+1):∃a r,l=a::r/\r.length=n:=by
 cases l with
 | nil=>cases h
 | cons a r=>exact⟨a,r,rfl,Nat.succ.inj h⟩
theorem len1 {α:Type}{l:List α}(h:l.length=1):∃a,l=[a]:=by obtain⟨a,r,e,q⟩:=lenS h;exact⟨a,by rw[e,len0 q]⟩
theorem len2 {α:Type}{l:List α}(h:l.length=2):∃a b,l=[a,b]:=by obtain⟨a,r,e,q⟩:=lenS h;obtain⟨b,e2⟩:=len1 q;exact⟨a,b,by rw[e,e2]⟩
theorem len3 {α:Type}{l:List α}(h:l.length=3):∃a b c,l=[a,b,c]:=by obtain⟨a,r,e,q⟩:=lenS h;obtain⟨b,c,e2⟩:=len2 q;exact⟨a,b,c,by rw[e,e2]⟩
theorem len4 {α:Type}{l:List α}(h:l.length=4):∃a b c d,l=[a,b,c,d]:=by obtain⟨a,r,e,q⟩:=lenS h;obtain⟨b,c,d,e2⟩:=len3 q;exact⟨a,b,c,d,by rw[e,e2]⟩
theorem len5 {α:Type}{l:List α}(h:l.length=5):∃a b c d e,l=[a,b,c,d,e]:=by obtain⟨a,r,e1,q⟩:=lenS h;obtain⟨b,c,d,e,e2⟩:=len4 q;exact⟨a,b,c,d,e,by rw[e1,e2]⟩
end L2
namespace L2
open PySem PySem.Spec PyProof.Rows
open DS (D Store Exn Rs SR)
theorem zKg {K:PySem.W.Frag}{F:DS.Fn}{H:Hp}{a:Addr}{ns:List Int}{XX:XK}(h:∃S,F [.klst (ns.map D.int)] []=.ok (.bl true) S) (hS:SqL K H a (ns.map V.int)):spOf K XE0 F [.ref a] H (fun v _=>v=.bl true) XX:=by
 obtain⟨S,e⟩:=h
 refine⟨[],[],[.klst (ns.map D.int)],⟨rfl,List.nodup_nil,fun i a d e _=>by simp at e⟩,⟨.ref a,[],rfl,⟨a,ns.map V.int,rfl,?_,.ints⟩,rfl⟩,?_⟩
 ·rcases hS with h|h
  ·exact .inl ⟨h,by simp⟩
  ·exact .inr h
 ·rw[e]
  exact fun J' H' _ _ v r=>r
end L2
namespace TM
open PySem PyProof.Rows
noncomputable def dk:Keyed:=(Value.none,Value.none)
noncomputable def Cm (prog:Program) (w:World) (A:Around) (s:Shared) (κ:SortKind) (rk:Keyed->Nat) (Gd:Keyed->Prop):Prop:=
 ∀x y,Gd x->Gd y->∀(Q:Bool->Shared->Prop) (E':Value->Shared->Prop),Q (decide (rk x<rk y)) s->wpAny (model prog w) A (keyLt' κ x.1 y.1) Q E' s
structure SB (κ:SortKind) (a₀:Array Keyed) (st:SortSt):Prop where
 perm:(arrOf st).Perm a₀
 kind:kindOf st=κ
 failed:failedOf st=none
section
variable {κ:SortKind}{a₀:Array Keyed}{st:SortSt}{rk:Keyed->Nat}
theorem SB.size (h:SB κ a₀ st):(arrOf st).size=a₀.size:=h.perm.size_eq
theorem SB.set (h:SB κ a₀ st) {xs:Array Keyed}(hp:xs.Perm (arrOf st)):SB κ a₀ (setArr st xs):=⟨hp.trans h.perm,h.kind,h.failed⟩
noncomputable def ky (rk:Keyed->Nat) (xs:Array Keyed) (i:Nat):Nat:=rk (xs.getD i dk)
noncomputable def So (rk:Keyed->Nat) (xs:Array Keyed) (a b:Nat):Prop:=∀i j,a<=i->i<=j->j<b->ky rk xs i<=ky rk xs j
noncomputable def Fa (rk:Keyed->Nat) (xs:Array Keyed) (a b:Nat):Prop:=∀i j,a<=i->i<=j->j<b->ky rk xs j<=ky rk xs i
noncomputable def Out (a b:Nat) (xs ys:Array Keyed):Prop:=∀k,k<a\/b<=k->ys[k]?=xs[k]?
theorem Out.refl {a b:Nat}{xs:Array Keyed}:Out a b xs xs:=fun _ _=>rfl
theorem Out.trans {a b:Nat}{xs ys zs:Array Keyed}(h:Out a b xs ys) (h':Out a b ys zs):Out a b xs zs:=fun k hk=>(h' k hk).trans (h k hk)
theorem Out.mono {a b a' b':Nat}{xs ys:Array Keyed}(h:Out a b xs ys) (h1:a'<=a) (h2:b<=b'):Out a' b' xs ys:=fun k hk=>h k (by nofun)
theorem zTx {xs ys:Array Keyed}{i j:Nat}(h:xs[i]?=ys[j]?):xs.getD i dk=ys.getD j dk:=by
 rw[vx,vx,h]
theorem zJb {xs ys:Array Keyed}{i j:Nat}(h:xs[i]?=ys[j]?):ky rk xs i=ky rk ys j:=by unfold ky;rw[zTx h]
theorem Out.ky {a b k:Nat}{xs ys:Array Keyed}(h:Out a b xs ys) (hk:k<a\/b<=k):TM.ky rk ys k=TM.ky rk xs k:=zJb (h k hk)
theorem So.out {a b c d:Nat}{xs ys:Array Keyed}(h:So rk xs c d) (o:Out a b xs ys) (hd:d<=a\/b<=c):So rk ys c d:=fun i j h1 h2 h3=>by
 rw[o.ky (by nofun),o.ky (by nofun)];exact h i j h1 h2 h3
theorem zLq {xs:Array Keyed}{i j:Nat}(hj:j<=xs.size) (k:Nat):ky rk (mirror xs i j ((j-i) / 2)) k=if i<=k/\k<j then ky rk xs (i+j-1-k)else ky rk xs k:=by
 have e:=getElem?_mirror_all (i:=i) hj k
 split at e <;> rename_i h1
 ·rw[xc h1];exact zJb e
 ·rw[xf h1];exact zJb e
theorem zBj {xs:Array Keyed}{i j:Nat}(hj:j<=xs.size) (he:∀k,i<=k->k<j->ky rk xs k=ky rk xs (j-1)) (k:Nat):ky rk (mirror xs i j ((j-i) / 2)) k=ky rk xs k:=by
 rw[zLq hj]
 split
 ·rw[he _ (by nofun) (by nofun),he k (by nofun) (by nofun)]
 ·rfl
theorem zSz {xs:Array Keyed}{i j:Nat}(hj:j<=xs.size):Out i j xs (mirror xs i j ((j-i) / 2)):=fun k hk=>by
 rw[getElem?_mirror_all hj,xf (by nofun)]
theorem zQq {xs:Array Keyed}{src d:Nat}(hs:src<xs.size) (hd:d<=src) (k:Nat):ky rk (bubble xs src d) k=if k=src-d then ky rk xs src else if src-d<k/\k<=src then ky rk xs (k-1)else ky rk xs k:=by
 have e:=getElem?_bubble hs d hd k
 split at e <;> rename_i h1
 ·rw[xc h1];exact zJb e
 ·rw[xf h1]
  split at e <;> rename_i h2
  ·rw[xc h2];exact zJb e
  ·rw[xf h2];exact zJb e
theorem zT0 {xs:Array Keyed}{src d:Nat}(hs:src<xs.size) (hd:d<=src):Out (src-d) (src+1) xs (bubble xs src d):=fun k hk=>by
 rw[getElem?_bubble hs d hd,xf (by nofun),xf (by nofun)]
end
section
variable {prog:Program}{w:World}{A:Around}{E:Value->Shared->Prop}{s:Shared}{κ:SortKind}{a₀:Array Keyed}{rk:Keyed->Nat}{Gd:Keyed->Prop}
theorem zZm {xs:Array Keyed}(hp:xs.Perm a₀) (hg:∀x∈a₀,Gd x) {i:Nat}(hi:i<a₀.size):xs[i]?=some (xs.getD i dk)/\Gd (xs.getD i dk):=by
 have hi':i<xs.size:=by rw[hp.size_eq];exact hi
 have e:xs.getD i dk=xs[i]:=by simp[Array.getD,hi']
 refine⟨by rw[e];exact getElem?_pos _ i hi',?_⟩
 rw[e]
 exact hg _ (hp.mem_iff.mp (Array.getElem_mem hi'))
theorem w_lt (C:Cm prog w A s κ rk Gd) {st:SortSt}{x y:Keyed}{Q:Option Bool->SortSt->Prop}(hk:kindOf st=κ) (hx:Gd x) (hy:Gd y) (h:Q (some (decide (rk x<rk y))) st):wpS (model prog w) A E s (lt' x y) Q st:=by
 rw[lt'_eq]
 refine xy (wpS_get ?_)
 rw[hk]
 exact xy (wpS_lift (ui (C x y hx hy _ _ ⟨rfl,xH h⟩)))
theorem zQ6 {st:SortSt}{xs:Array Keyed}{i:Nat}{x:Keyed}{Q:Keyed->SortSt->Prop}(e:xs[i]?=some x) (h:Q x st):wpS (model prog w) A E s (elem' xs i) Q st:=by
 rw[elem'_eq,e];exact xH h
theorem w_at (C:Cm prog w A s κ rk Gd) (hg:∀x∈a₀,Gd x) {st:SortSt}{i j:Nat}{Q:Option Bool->SortSt->Prop}(B:SB κ a₀ st) (hi:i<a₀.size) (hj:j<a₀.size)
  (h:Q (some (decide (ky rk (arrOf st) i<ky rk (arrOf st) j))) st):wpS (model prog w) A E s (ltAt' i j) Q st:=by
 obtain⟨e1,g1⟩:=zZm B.perm hg hi
 obtain⟨e2,g2⟩:=zZm B.perm hg hj
 rw[ltAt'_eq]
 refine xy (wpS_get ?_)
 exact xy (zQ6 e1 (xy (zQ6 e2 (w_lt C B.kind g1 g2 h))))
noncomputable def ascL (lo a nrem:Nat):StateT SortSt Sem AscSt:=forIn [a:nrem] ((none,a):AscSt) fun _ z=>do
 let x <- ltAt' (lo+z.snd) (lo+z.snd-1)
 match x with
 | some smaller=>if smaller=true then pure (ForInStep.done (none,z.snd))else pure (ForInStep.yield (none,z.snd+1))
 | _=>pure (ForInStep.done (some none,z.snd))
noncomputable def zK3 (lo n nrem:Nat):StateT SortSt Sem (Option Nat):=do
 reverseSlice' lo (lo+n)
 let z <- ascL lo n nrem
 match z.fst with
 | some r=>pure r
 | none=>pure (some z.snd)
noncomputable def zPv (lo n nrem:Nat):StateT SortSt Sem DescSt:=forIn [n:nrem] ((none,n,0):DescSt) fun _ z=>do
 let x <- ltAt' (lo+z.snd.fst) (lo+z.snd.fst-1)
 match x with
 | some smaller=>
  if smaller=true then
   if z.snd.snd > 0 then do
    reverseSlice' (lo+z.snd.fst-(z.snd.snd+1)) (lo+z.snd.fst)
    pure (ForInStep.yield (none,z.snd.fst+1,0))
   else pure (ForInStep.yield (none,z.snd.fst+1,0))
  else do
   let x <- ltAt' (lo+z.snd.fst-1) (lo+z.snd.fst)
   match x with
   | some larger=>if larger=true then pure (ForInStep.done (none,z.snd.fst,z.snd.snd))else pure (ForInStep.yield (none,z.snd.fst+1,z.snd.snd+1))
   | _=>pure (ForInStep.done (some none,z.snd.fst,z.snd.snd))
 | _=>pure (ForInStep.done (some none,z.snd.fst,z.snd.snd))
noncomputable def zL5 (lo n nrem:Nat):StateT SortSt Sem (Option Nat):=do
 liftM (rule "list.sort.descending-run")
 let z <- zPv lo (n+1) nrem
 match z.fst with
 | some r=>pure r
 | none=>
  if z.snd.snd > 0 then do
   reverseSlice' (lo+z.snd.fst-(z.snd.snd+1)) (lo+z.snd.fst)
   zK3 lo z.snd.fst nrem
  else zK3 lo z.snd.fst nrem
theorem count_eq (lo nrem:Nat):countRun' lo nrem=(do
  let z <- ascL lo 1 nrem
  match z.fst with
  | some r=>pure r
  | none=>
   if(z.snd == nrem)=true then pure (some z.snd)
   else if z.snd > 1 then do
    let x <- ltAt' lo (lo+z.snd-1)
    match x with
    | some rose=>if rose=true then pure (some z.snd)else do
      reverseSlice' lo (lo+z.snd)
      zL5 lo z.snd nrem
    | _=>pure none
   else zL5 lo z.snd nrem):=by
 rw[countRun'_eq]
 unfold zL5 zK3 zPv ascL
 refine congrArg (Bind.bind _) ?_
 funext z
 obtain⟨r,n⟩:=z
 cases r with
 | some r=>rfl
 | none=>
  dsimp only
  split
  ·rfl
  ·split
   ·congr 1;funext x
    cases x with
    | none=>rfl
    | some rose=>
     dsimp only
     split
     ·rfl
     ·congr 1;funext _r
      congr 1;funext _u;congr 1;congr 1;funext s2;obtain⟨r2,n2,q2⟩:=s2
      cases r2 with
      | some r2=>rfl
      | none=>
       dsimp only
       split
       ·congr 1;funext _v;congr 1;funext _w;congr 1;funext s3;obtain⟨r3,n3⟩:=s3;cases r3 <;> rfl
       ·congr 1;funext _w;congr 1;funext s3;obtain⟨r3,n3⟩:=s3;cases r3 <;> rfl
   ·congr 1;funext _u;congr 1;congr 1;funext s2;obtain⟨r2,n2,q2⟩:=s2
    cases r2 with
    | some r2=>rfl
    | none=>
     dsimp only
     split
     ·congr 1;funext _v;congr 1;funext _w;congr 1;funext s3;obtain⟨r3,n3⟩:=s3;cases r3 <;> rfl
     ·congr 1;funext _w;congr 1;funext s3;obtain⟨r3,n3⟩:=s3;cases r3 <;> rfl
structure Ran (κ:SortKind) (a₀:Array Keyed) (lo hi:Nat) (st st':SortSt):Prop where
 b:SB κ a₀ st'
 pend:pendingOf st'=pendingOf st
 out:Out lo hi (arrOf st) (arrOf st')
theorem Ran.refl {lo hi:Nat}{st:SortSt}(B:SB κ a₀ st):Ran κ a₀ lo hi st st:=⟨B,rfl,.refl⟩
theorem Ran.trans {lo hi:Nat}{st st1 st2:SortSt}(a:Ran κ a₀ lo hi st st1) (b:Ran κ a₀ lo hi st1 st2):Ran κ a₀ lo hi st st2:=⟨b.b,b.pend.trans a.pend,a.out.trans b.out⟩
theorem Ran.mono {lo hi lo' hi':Nat}{st st1:SortSt}(a:Ran κ a₀ lo hi st st1) (h1:lo'<=lo) (h2:hi<=hi'):Ran κ a₀ lo' hi' st st1:=⟨a.b,a.pend,a.out.mono h1 h2⟩
theorem w_rev {st:SortSt}{i j:Nat}{Q:Unit->SortSt->Prop}(h:Q () (setArr st (mirror (arrOf st) i j ((j-i) / 2)))):wpS (model prog w) A E s (reverseSlice' i j) Q st:=by
 rw[reverseSlice'_eq];exact wpS_modify h
theorem zEf {st:SortSt}{i j:Nat}(B:SB κ a₀ st) (hj:j<=a₀.size):Ran κ a₀ i j st (setArr st (mirror (arrOf st) i j ((j-i) / 2))):=⟨B.set (mirror_perm _ _ _ _),rfl,zSz (by rw[B.size];exact hj)⟩
theorem zVe (C:Cm prog w A s κ rk Gd) (hg:∀x∈a₀,Gd x) {st:SortSt}{lo a nrem:Nat}{Q:AscSt->SortSt->Prop}(hn:lo+nrem<=a₀.size) (ha:1<=a) (han:a<=nrem) (B:SB κ a₀ st) (hs:So rk (arrOf st) lo (lo+a))
  (h:∀n,a<=n->n<=nrem->So rk (arrOf st) lo (lo+n)->(n=nrem\/ky rk (arrOf st) (lo+n)<ky rk (arrOf st) (lo+n-1))->Q (none,n) st):wpS (model prog w) A E s (ascL lo a nrem) Q st:=by
 unfold ascL
 refine wpS_forRange (I:=fun x c st'=>st'=st/\c=(none,x)/\So rk (arrOf st) lo (lo+x)) ?step ?fin ⟨rfl,rfl,hs⟩
 case fin=>
  rintro c st' ⟨rfl,rfl,hs'⟩
  rw[show max a nrem=nrem by nofun]at hs' ⊢
  exact h nrem han (xh _) hs' (.inl rfl)
 case step=>
  rintro x c st' hax hxn ⟨rfl,rfl,hs'⟩
  dsimp only
  refine xy (w_at C hg B (by nofun) (by nofun) ?_)
  by_cases q:ky rk (arrOf st') (lo+x)<ky rk (arrOf st') (lo+x-1)
  ·rw[xo q]
   exact xH (h x hax (by nofun) hs' (.inr q))
  ·rw[xl q]
   refine xH ⟨rfl,rfl,fun i j h1 hij hj=>?_⟩
   by_cases hjx:j<lo+x
   ·exact hs' i j h1 hij hjx
   ·obtain rfl:j=lo+x:=by nofun
    by_cases hi':i=lo+x
    ·rw[hi'];exact xh _
    ·exact xp (hs' i (lo+x-1) h1 (by nofun) (by nofun)) (Nat.not_lt.mp q)
theorem zQ4 (C:Cm prog w A s κ rk Gd) (hg:∀x∈a₀,Gd x) {st:SortSt}{lo n nrem:Nat}{Q:Option Nat->SortSt->Prop}(hn:lo+nrem<=a₀.size) (h1:1<=n) (hnn:n<=nrem) (B:SB κ a₀ st) (hs:Fa rk (arrOf st) lo (lo+n))
  (h:∀m st',Ran κ a₀ lo (lo+nrem) st st'->1<=m->m<=nrem->So rk (arrOf st') lo (lo+m)->Q (some m) st'):wpS (model prog w) A E s (zK3 lo n nrem) Q st:=by
 unfold zK3
 have R:=zEf (i:=lo) (j:=lo+n) B (by nofun)
 have hsz:lo+n<=(arrOf st).size:=by rw[B.size];lia
 refine xy (w_rev (xy (zVe C hg hn h1 hnn R.b ?_ fun m hm1 hm2 hsm _=>xH (h m _ (R.mono (xh _) (by nofun)) (by nofun) hm2 hsm))))
 intro i j h0 hij hj
 show ky rk (mirror (arrOf st) lo (lo+n) ((lo+n-lo) / 2)) i<=ky rk (mirror (arrOf st) lo (lo+n) ((lo+n-lo) / 2)) j
 rw[zLq hsz,zLq hsz,xc (by nofun),xc (by nofun)]
 exact hs _ _ (by nofun) (by nofun) (by nofun)
theorem zVd (C:Cm prog w A s κ rk Gd) (hg:∀x∈a₀,Gd x) {st:SortSt}{lo n nrem:Nat}{Q:DescSt->SortSt->Prop}(hn:lo+nrem<=a₀.size) (h1:1<=n) (hnn:n<=nrem) (B:SB κ a₀ st) (hs:Fa rk (arrOf st) lo (lo+n))
  (h:∀m neq st',Ran κ a₀ lo (lo+nrem) st st'->n<=m->m<=nrem->Fa rk (arrOf st') lo (lo+m)->neq+1<=m->(∀i,lo+m-(neq+1)<=i->i<lo+m->ky rk (arrOf st') i=ky rk (arrOf st') (lo+m-1))->Q (none,m,neq) st'):
  wpS (model prog w) A E s (zPv lo n nrem) Q st:=by
 unfold zPv
 refine wpS_forRange (I:=fun x c st'=>∃neq,c=(none,x,neq)/\Ran κ a₀ lo (lo+nrem) st st'/\Fa rk (arrOf st') lo (lo+x)/\neq+1<=x/\(∀i,lo+x-(neq+1)<=i->i<lo+x->ky rk (arrOf st') i=ky rk (arrOf st') (lo+x-1))) ?step ?fin
  ⟨0,rfl,.refl B,hs,by nofun,fun i h1 h2=>by congr 1;lia⟩
 case fin=>
  rintro c st' ⟨neq,rfl,R,hs',hq,he⟩
  rw[show max n nrem=nrem by nofun]at hs' hq he ⊢
  exact h nrem neq st' R hnn (xh _) hs' hq he
 case step=>
  rintro x c st' hax hxn ⟨neq,rfl,R,hs',hq,he⟩
  dsimp only
  have hsz:lo+x<=(arrOf st').size:=by rw[R.b.size];lia
  refine xy (w_at C hg R.b (by nofun) (by nofun) ?_)
  by_cases q:ky rk (arrOf st') (lo+x)<ky rk (arrOf st') (lo+x-1)
  ·rw[xo q]
   simp only[xn]
   have st1:∀xs:Array Keyed,(∀k,ky rk xs k=ky rk (arrOf st') k)->Fa rk xs lo (lo+(x+1)):=fun xs hk i j h0 hij hj=>by
    rw[hk,hk]
    by_cases hjx:j<lo+x
    ·exact hs' i j h0 hij hjx
    ·obtain rfl:j=lo+x:=by nofun
     by_cases hi':i=lo+x
     ·rw[hi'];exact xh _
     ·exact xp (vm q) (hs' i (lo+x-1) h0 (by nofun) (by nofun))
   by_cases hneq:neq > 0
   ·rw[xc hneq]
    have R2:=zEf (i:=lo+x-(neq+1)) (j:=lo+x) R.b (by nofun)
    exact xy (w_rev (xH ⟨0,rfl,R.trans (R2.mono (by nofun) (by nofun)),st1 _ (zBj hsz he),by nofun,fun i h1 h2=>by congr 1;lia⟩))
   ·rw[xf hneq]
    exact xH ⟨0,rfl,R,st1 _ (fun _=>rfl),by nofun,fun i h1 h2=>by congr 1;lia⟩
  ·rw[xl q]
   simp only[xP,xK]
   refine xy (w_at C hg R.b (by nofun) (by nofun) ?_)
   by_cases ql:ky rk (arrOf st') (lo+x-1)<ky rk (arrOf st') (lo+x)
   ·rw[xo ql]
    exact xH (h x neq st' R hax (by nofun) hs' hq he)
   ·rw[xl ql]
    have ex:ky rk (arrOf st') (lo+x)=ky rk (arrOf st') (lo+x-1):=by nofun
    refine xH ⟨neq+1,rfl,R,fun i j h0 hij hj=>?_,by nofun,fun i h1 h2=>?_⟩
    ·by_cases hjx:j<lo+x
     ·exact hs' i j h0 hij hjx
     ·obtain rfl:j=lo+x:=by nofun
      by_cases hi':i=lo+x
      ·rw[hi'];exact xh _
      ·rw[ex];exact hs' i (lo+x-1) h0 (by nofun) (by nofun)
    ·rw[show lo+(x+1)-1=lo+x by nofun]
     by_cases hix:i=lo+x
     ·rw[hix]
     ·rw[ex];exact he i (by nofun) (by nofun)
theorem zQ5 (C:Cm prog w A s κ rk Gd) (hg:∀x∈a₀,Gd x) {st:SortSt}{lo n nrem:Nat}{Q:Option Nat->SortSt->Prop}(hn:lo+nrem<=a₀.size) (hnn:n+1<=nrem) (B:SB κ a₀ st) (hs:Fa rk (arrOf st) lo (lo+(n+1)))
  (h:∀m st',Ran κ a₀ lo (lo+nrem) st st'->1<=m->m<=nrem->So rk (arrOf st') lo (lo+m)->Q (some m) st'):wpS (model prog w) A E s (zL5 lo n nrem) Q st:=by
 unfold zL5
 refine xy (wpS_lift (vg ⟨rfl,xy (zVd C hg hn (by nofun) hnn B hs fun m neq st' R hm1 hm2 hs' hq he=>?_)⟩))
 dsimp only
 have hsz:lo+m<=(arrOf st').size:=by rw[R.b.size];lia
 by_cases hneq:neq > 0
 ·rw[xc hneq]
  have R2:=zEf (i:=lo+m-(neq+1)) (j:=lo+m) R.b (by nofun)
  refine xy (w_rev (zQ4 C hg hn (by nofun) hm2 R2.b (fun i j h0 hij hj=>?_) fun m' st'' R3 a1 a2 a3=>h m' st'' ((R.trans (R2.mono (by nofun) (by nofun))).trans R3) a1 a2 a3))
  show ky rk (mirror (arrOf st') _ _ _) j<=ky rk (mirror (arrOf st') _ _ _) i
  rw[zBj hsz he,zBj hsz he]
  exact hs' i j h0 hij hj
 ·rw[xf hneq]
  exact zQ4 C hg hn (by nofun) hm2 R.b hs' fun m' st'' R3 a1 a2 a3=>h m' st'' (R.trans R3) a1 a2 a3
theorem w_count (C:Cm prog w A s κ rk Gd) (hg:∀x∈a₀,Gd x) {st:SortSt}{lo nrem:Nat}{Q:Option Nat->SortSt->Prop}(hn:lo+nrem<=a₀.size) (h1:1<=nrem) (B:SB κ a₀ st)
  (h:∀m st',Ran κ a₀ lo (lo+nrem) st st'->1<=m->m<=nrem->So rk (arrOf st') lo (lo+m)->Q (some m) st'):wpS (model prog w) A E s (countRun' lo nrem) Q st:=by
 rw[count_eq]
 refine xy (zVe C hg hn (xh 1) h1 B (fun i j h0 hij hj=>Nat.le_of_eq (congrArg _ (show i=j by nofun))) fun n hn1 hn2 hsn hor=>?_)
 dsimp only
 by_cases hnn:n=nrem
 ·rw[xc (by simpa using hnn)]
  exact xH (h n st (.refl B) hn1 hn2 hsn)
 ·rw[xf (by simpa using hnn)]
  have hlt:=hor.resolve_left hnn
  by_cases hgt:n > 1
  ·rw[xc hgt]
   refine xy (w_at C hg B (by nofun) (by nofun) ?_)
   by_cases hr:ky rk (arrOf st) lo<ky rk (arrOf st) (lo+n-1)
   ·rw[xo hr]
    exact xH (h n st (.refl B) hn1 hn2 hsn)
   ·rw[xl hr]
    have hsz:lo+n<=(arrOf st).size:=by rw[B.size];lia
    have hall:∀k,lo<=k->k<lo+n->ky rk (arrOf st) k=ky rk (arrOf st) (lo+n-1):=fun k hk0 hk=>by
     have a1:=hsn lo k (xh _) hk0 hk
     have a2:=hsn k (lo+n-1) hk0 (by nofun) (by nofun)
     lia
    have R2:=zEf (i:=lo) (j:=lo+n) B (by nofun)
    refine xy (w_rev (zQ5 C hg hn (by nofun) R2.b (fun i j h0 hij hj=>?_) fun m' st'' R3 a1 a2 a3=>h m' st'' ((R2.mono (xh _) (by nofun)).trans R3) a1 a2 a3))
    show ky rk (mirror (arrOf st) _ _ _) j<=ky rk (mirror (arrOf st) _ _ _) i
    rw[zBj hsz hall,zBj hsz hall]
    by_cases hjn:j<lo+n
    ·rw[hall i (by nofun) (by nofun),hall j (by nofun) hjn];exact xh _
    ·obtain rfl:j=lo+n:=by nofun
     by_cases hi':i=lo+n
     ·rw[hi'];exact xh _
     ·rw[hall i (by nofun) (by nofun)];exact vm hlt
  ·rw[xf hgt]
   obtain rfl:n=1:=by nofun
   refine zQ5 C hg hn (by nofun) B (fun i j h0 hij hj=>?_) h
   by_cases hi':i=j
   ·rw[hi'];exact xh _
   ·obtain rfl:i=lo:=by nofun
    obtain rfl:j=i+1:=by nofun
    exact vm hlt
end
end TM
namespace TM
open PySem PyProof.Rows
section
variable {prog:Program}{w:World}{A:Around}{E:Value->Shared->Prop}{s:Shared}{κ:SortKind}{a₀:Array Keyed}{rk:Keyed->Nat}{Gd:Keyed->Prop}
theorem zZr (C:Cm prog w A s κ rk Gd) (hg:∀x∈a₀,Gd x) {st:SortSt}{lo n ok:Nat}{Q:Bool->SortSt->Prop}(hn:lo+n<=a₀.size) (hok:ok<=n) (B:SB κ a₀ st) (hs:So rk (arrOf st) lo (lo+ok))
  (h:∀st',Ran κ a₀ lo (lo+n) st st'->So rk (arrOf st') lo (lo+n)->Q true st'):wpS (model prog w) A E s (binarySort' lo n ok) Q st:=by
 rw[binarySort'_eq]
 refine xy (wpS_mono (wpS_forRange (I:=fun k c st'=>c=(none,())/\Ran κ a₀ lo (lo+n) st st'/\So rk (arrOf st') lo (lo+min k n)) (Q:=fun c st'=>c=(none,())/\Ran κ a₀ lo (lo+n) st st'/\So rk (arrOf st') lo (lo+n)) ?step ?fin ?init) ?post)
 case post=>
  rintro c st' ⟨rfl,R,hs'⟩
  exact xH (h st' R hs')
 case init=>
  refine⟨rfl,.refl B,fun i j h0 hij hj=>?_⟩
  by_cases h1:ok=0
  ·exact Nat.le_of_eq (congrArg _ (show i=j by nofun))
  ·exact hs i j h0 hij (by nofun)
 case fin=>
  rintro c st' ⟨hc,R,hs'⟩
  rw[show min (max (max ok 1) n) n=n by nofun]at hs'
  exact⟨hc,R,hs'⟩
 case step=>
  rintro k c st' hak hkn ⟨rfl,R,hs'⟩
  rw[show min k n=k by nofun]at hs'
  have hk:lo+k<a₀.size:=by nofun
  refine xy (wpS_mono (wpS_forRange (I:=fun x c st''=>st''=st'/\∃l r,c=(none,l,r)/\l<=r/\r<=k/\r-l<=k-x/\(∀i,i<l->ky rk (arrOf st') (lo+i)<=ky rk (arrOf st') (lo+k))/\(∀i,r<=i->i<k->ky rk (arrOf st') (lo+k)<ky rk (arrOf st') (lo+i)))
   (Q:=fun c st''=>st''=st'/\∃l r,c=(none,l,r)/\l<=k/\(∀i,i<l->ky rk (arrOf st') (lo+i)<=ky rk (arrOf st') (lo+k))/\(∀i,l<=i->i<k->ky rk (arrOf st') (lo+k)<ky rk (arrOf st') (lo+i))) ?istep ?ifin ?iinit) ?ipost)
  case iinit=>exact⟨rfl,0,k,rfl,by nofun,by nofun,by nofun,fun i hi=>by nofun,fun i h1 h2=>by nofun⟩
  case ifin=>
   rintro c st'' ⟨rfl,l,r,rfl,hlr,hrk,hm,hlo,hhi⟩
   obtain rfl:l=r:=by nofun
   exact⟨rfl,l,l,rfl,hrk,hlo,hhi⟩
  case istep=>
   rintro x c st'' _ hxk ⟨rfl,l,r,rfl,hlr,hrk,hm,hlo,hhi⟩
   dsimp only
   by_cases hge:l >= r
   ·rw[xc hge]
    obtain rfl:l=r:=by nofun
    exact xH ⟨rfl,l,l,rfl,hrk,hlo,hhi⟩
   ·rw[xf hge]
    refine xy (w_at C hg R.b hk (by nofun) ?_)
    by_cases q:ky rk (arrOf st'') (lo+k)<ky rk (arrOf st'') (lo+(l+r) / 2)
    ·rw[xo q]
     exact xH ⟨rfl,l,(l+r) / 2,rfl,by nofun,by nofun,by nofun,hlo,fun i h1 h2=>xv q (hs' _ _ (by nofun) (by nofun) (by nofun))⟩
    ·rw[xl q]
     exact xH ⟨rfl,(l+r) / 2+1,r,rfl,by nofun,by nofun,by nofun,fun i h1=>xp (hs' (lo+i) (lo+(l+r) / 2) (by nofun) (by nofun) (by nofun)) (Nat.not_lt.mp q),hhi⟩
  case ipost=>
   rintro c st'' ⟨rfl,l,r,rfl,hlk,hlo,hhi⟩
   show wpS _ _ _ _ (do moveDown' (lo+k) (lo+l);pure (ForInStep.yield (none,()))) _ _
   rw[moveDown'_eq]
   have hks:lo+k<(arrOf st'').size:=by rw[R.b.size];exact hk
   have ob:=zT0 (d:=lo+k-(lo+l)) hks (by nofun)
   refine xy (wpS_modify (xH ⟨rfl,R.trans ⟨R.b.set (bubble_perm _ _ _),rfl,ob.mono (by nofun) (by nofun)⟩,?_⟩))
   rw[show min (k+1) n=k+1 by nofun]
   intro i j h0 hij hj
   show ky rk (bubble (arrOf st'') (lo+k) (lo+k-(lo+l))) i<=ky rk (bubble (arrOf st'') (lo+k) (lo+k-(lo+l))) j
   rw[zQq hks (by nofun),zQq hks (by nofun),show lo+k-(lo+k-(lo+l))=lo+l by nofun]
   have lo':∀i,lo<=i->i<lo+l->ky rk (arrOf st'') i<=ky rk (arrOf st'') (lo+k):=fun i h1 h2=>by
    have:=hlo (i-lo) (by nofun)
    rwa[show lo+(i-lo)=i by nofun]at this
   have hi':∀i,lo+l<=i->i<lo+k->ky rk (arrOf st'') (lo+k)<=ky rk (arrOf st'') i:=fun i h1 h2=>by
    have:=hhi (i-lo) (by nofun) (by nofun)
    rw[show lo+(i-lo)=i by nofun]at this
    exact vm this
   repeat' split
   all_goals first
    | (exfalso;lia)
    | exact xh _
    | exact lo' _ (by nofun) (by nofun)
    | exact hi' _ (by nofun) (by nofun)
    | exact hs' _ _ (by nofun) (by nofun) (by nofun)
end
end TM
namespace TM
open PySem PyProof.Rows
section
variable {rk:Keyed->Nat}
noncomputable abbrev Pw (rk:Keyed->Nat) (l:List Keyed):Prop:=l.Pairwise fun x y=>rk x<=rk y
theorem getD_list (a:Array Keyed) (i:Nat) (h:i<a.size):a.getD i dk=a.toList[i]'(by simpa using h):=by simp[Array.getD,h]
theorem So.pw {a:Array Keyed}(h:So rk a 0 a.size):Pw rk a.toList:=by
 rw[Pw,List.pairwise_iff_getElem]
 intro i j hi hj hij
 have:=h i j (by nofun) (by nofun) (by simpa using hj)
 unfold ky at this
 rwa[getD_list a i (by simpa using hi),getD_list a j (by simpa using hj)]at this
variable {a b out:Array Keyed}{ia ib k:Nat}
variable {na nb:Nat}
end
end TM
namespace TM
open PySem PyProof.Rows
section
variable {prog:Program}{w:World}{A:Around}{E:Value->Shared->Prop}{s:Shared}{κ:SortKind}{a₀:Array Keyed}{rk:Keyed->Nat}{Gd:Keyed->Prop}
theorem zOw (n:Nat) (h:n<64):minRun' n n 0=n:=by
 match n,h with
 | 0,_=>rfl
 | n+1,h=>
  show(if n+1<64 then n+1+0 else minRun' n ((n+1) / 2) (max 0 ((n+1) % 2)))=n+1
  rw[xc h]
theorem zRh {γ:Type}{c:Prop}[Decidable c] {st:SortSt}{m n:StateT SortSt Sem γ}{Q:γ->SortSt->Prop}(h1:c->wpS (model prog w) A E s m Q st) (h2:¬ c->wpS (model prog w) A E s n Q st):wpS (model prog w) A E s (if c then m else n) Q st:=by
 split
 ·exact h1 ‹_›
 ·exact h2 ‹_›
theorem w_sr (C:Cm prog w A s κ rk Gd) (hz:a₀.size<=63) (hg:∀x∈a₀,Gd x) {st:SortSt}{Q:Unit->SortSt->Prop}(B:SB κ a₀ st) (hp:pendingOf st=#[])
  (h:∀st',SB κ a₀ st'->So rk (arrOf st') 0 a₀.size->Q () st'):wpS (model prog w) A E s sortRuns' Q st:=by
 rw[sortRuns'_eq]
 refine xy (wpS_get ?_)
 dsimp only
 rw[B.size,zOw _ (by nofun)]
 refine xy (wpS_mono (wpS_forRange (I:=fun x c st'=>∃lo p,c=(none,lo)/\SB κ a₀ st'/\pendingOf st'=List.toArray p/\((lo=0/\p=[]/\x<=lo)\/(lo=a₀.size/\p.length<=1/\So rk (arrOf st') 0 a₀.size)))
  (Q:=fun c st'=>∃p lo,c=(none,lo)/\SB κ a₀ st'/\pendingOf st'=List.toArray p/\p.length<=1/\So rk (arrOf st') 0 a₀.size) ?step ?fin ?init) ?post)
 case init=>exact⟨0,[],rfl,B,hp,.inl ⟨rfl,rfl,by nofun⟩⟩
 case fin=>
  rintro c st' ⟨lo,p,rfl,B',hp',q⟩
  rcases q with⟨rfl,rfl,q⟩|⟨rfl,q1,q2⟩
  ·exact⟨[],_,rfl,B',hp',by simp,fun i j h1 h2 h3=>by nofun⟩
  ·exact⟨p,_,rfl,B',hp',q1,q2⟩
 case post=>
  rintro c st' ⟨p,lo,rfl,B',hp',hl,hs⟩
  dsimp only
  refine xy (wpS_mono (wpS_forRange (I:=fun x c st2=>c=(none,())/\SB κ a₀ st2/\pendingOf st2=List.toArray p/\So rk (arrOf st2) 0 a₀.size)
   (Q:=fun c st2=>c=(none,())/\SB κ a₀ st2/\So rk (arrOf st2) 0 a₀.size) ?s2 ?f2 ?i2) ?p2)
  case i2=>exact⟨rfl,B',hp',hs⟩
  case f2=>
   rintro c st2 ⟨rfl,B2,hp2,hs2⟩
   exact⟨rfl,B2,hs2⟩
  case p2=>
   rintro c st2 ⟨rfl,B2,hs2⟩
   exact xH (h st2 B2 hs2)
  case s2=>
   rintro x c st2 _ hx ⟨rfl,B2,hp2,hs2⟩
   refine xy (wpS_get ?_)
   rw[hp2]
   refine zRh (fun q=>?_) fun q=>?_
   ·exact xH ⟨rfl,B2,hs2⟩
   ·exact absurd hl (by simpa using q)
 case step=>
  rintro x c st' _ hx ⟨lo,p,rfl,B',hp',q⟩
  dsimp only
  refine zRh (fun q1=>?_) fun q1=>?_
  ·rcases q with⟨rfl,rfl,q⟩|⟨rfl,q3,q4⟩
   ·exact xH ⟨[],_,rfl,B',hp',by simp,fun i j h1 h2 h3=>by nofun⟩
   ·exact xH ⟨p,_,rfl,B',hp',q3,q4⟩
  obtain⟨rfl,rfl,q⟩:lo=0/\p=[]/\x<=lo:=by
   rcases q with q|⟨rfl,_⟩
   ·exact q
   ·lia
  refine xy (w_count C hg (by nofun) (by nofun) B' fun m st2 R2 hm1 hm2 hs2=>?_)
  dsimp only
  have B2:=R2.b
  have hp2:pendingOf st2=#[]:=R2.pend.trans hp'
  refine zRh (fun q2=>?_) fun q2=>?_
  ·refine xy (wpS_lift (vg ⟨rfl,?_⟩))
   refine xy (zZr C hg (by nofun) (by nofun) B2 hs2 fun st3 R3 hs3=>?_)
   have B3:=R3.b
   have hp3:pendingOf st3=#[]:=R3.pend.trans hp2
   rw[xf (by decide)]
   refine xy (wpS_get ?_)
   rw[hp3]
   refine xy (wpS_modify (xH ⟨_,[(0,min (a₀.size-0) a₀.size,0)],rfl,⟨B3.perm,B3.kind,B3.failed⟩,?_,.inr ⟨by nofun,by simp,?_⟩⟩))
   ·show(pendingOf st3).push _=_
    rw[hp3];rfl
   ·have:0+min (a₀.size-0) a₀.size=a₀.size:=by nofun
    rw[this]at hs3
    exact hs3
  ·refine xy (wpS_get ?_)
   rw[hp2]
   refine xy (wpS_modify (xH ⟨_,[(0,m,0)],rfl,⟨B2.perm,B2.kind,B2.failed⟩,?_,.inr ⟨by nofun,by simp,?_⟩⟩))
   ·show(pendingOf st2).push _=_
    rw[hp2];rfl
   ·have:0+m=a₀.size:=by nofun
    rw[this]at hs2
    exact hs2
end
end TM
namespace EK
open PySem
open DS (D)
inductive A2 {α β:Type}(R:α->β->Prop):List α->List β->Prop where
 | nil:A2 R [] []
 | cons {a:α}{b:β}{l:List α}{m:List β}:R a b->A2 R l m->A2 R (a::l) (b::m)
theorem A2.length {α β:Type}{R:α->β->Prop}{l:List α}{m:List β}(h:A2 R l m):l.length=m.length:=by
 induction h with
 | nil=>rfl
 | cons _ _ ih=>simp[ih]
theorem A2.imp {α β:Type}{R R':α->β->Prop}{l:List α}{m:List β}(h:A2 R l m) (k:∀a b,R a b->R' a b):A2 R' l m:=by
 induction h with
 | nil=>exact .nil
 | cons h _ ih=>exact .cons (k _ _ h) ih
noncomputable def Ek (h:Heap):Nat->D->Value->Prop
 | 0,d,v=>∃i t,d=.int i/\v=.int i t
 | n+1,d,v=>∃ds a o items k,d=.tup ds/\v=.ref a/\h.get? a=some o/\o.cls=.type "tuple"/\o.data=.seq items k/\A2 (Ek h n) ds items.toList
theorem Ek.kept {h h':Heap}:∀{n:Nat}{d:D}{v:Value},Ek h n d v->(∀a o,h.get? a=some o->o.cls=.type "tuple"->h'.get? a=some o)->Ek h' n d v
 | 0,_,_,x,_=>x
 | n+1,_,_,⟨ds,a,o,items,k,e1,e2,h1,h2,h3,r⟩,kp=>⟨ds,a,o,items,k,e1,e2,kp a o h1 h2,h2,h3,r.imp fun _ _ q=>Ek.kept q kp⟩
theorem A2.inj {α β:Type}{R R':α->β->Prop}{l l':List α}{m:List β}(h:A2 R l m) (h':A2 R' l' m) (k:∀a a' b,R a b->R' a' b->a=a'):l=l':=by
 induction h generalizing l' with
 | nil=>cases h';rfl
 | cons h _ ih=>
  cases h' with
  | cons q r=>rw[k _ _ _ h q,ih r]
theorem Ek.inj {h:Heap}:∀{n:Nat}{d d':D}{v:Value},Ek h n d v->Ek h n d' v->d=d'
 | 0,_,_,_,⟨i,t,e1,e2⟩,⟨j,u,e3,e4⟩=>by subst e1 e2 e3;cases e4;rfl
 | n+1,_,_,_,⟨ds,a,o,items,k,e1,e2,h1,h2,h3,r⟩,⟨ds',a',o',items',k',e1',e2',h1',h2',h3',r'⟩=>by
  subst e1 e2 e1'
  cases e2'
  obtain rfl:o=o':=xD (h1.symm.trans h1')
  rw[h3]at h3'
  injection h3' with q _
  subst q
  rw[r.inj r' fun _ _ _ x y=>Ek.inj x y]
mutual
noncomputable def hD:D->Int
 | .int i=>hashInt i
 | .tup l=>reduceHash (Builtin.Tuple.tupleHashOf (hL l))
 | _=>0
noncomputable def hL:List D->List Int
 | []=>[]
 | d::r=>hD d::hL r
end
theorem zQv:∀(l m:List D),hL (l++m)=hL l++hL m
 | [],_=>rfl
 | d::l,m=>by simp[hL,zQv l m]
section
variable {prog:Program}{w:World}{s:Shared}
theorem Ek.typeIs {n:Nat}{d:D}{a:Addr}(h:Ek s.heap (n+1) d (.ref a)):s.TypeIs (.ref a) "tuple":=by
 obtain⟨ds,a',o,items,k,e1,e2,h1,h2,h3,r⟩:=h
 cases e2
 exact⟨o,h1,h2⟩
theorem zMf:∀(n:Nat) {d:D}{v:Value}{A:Around}{E:Value->Shared->Prop}{s:Shared}{Q:Int->Shared->Prop},Ek s.heap n d v->A.units+n<cLine->(∀tk,s.toks<=tk->Q (hD d) { s with toks:=tk })->wpAny (model prog w) A (pyHash v) Q E s
 | 0,_,_,A,E,s,Q,⟨i,t,e1,e2⟩,_,h=>by subst e1 e2;exact wpAny_pyHash_int (h _ (uU _ _))
 | n+1,_,_,A,E,s,Q,hk,hu,h=>by
  have hk0:=hk
  obtain⟨ds,a,o,items,k,rfl,rfl,ho,hc,hd,r⟩:=hk
  have hT:=hk0.typeIs
  unfold pyHash
  first|unfold pyHashByItsType|skip
  first|refine xa (wpAny_cRoomFor_or (.inr (by nofun)) ?_)|skip
  refine xa (vT hT uX.lookup ?_)
  show wpAny _ _ (if(some (Value.builtin "tuple.__hash__") == some Value.none)=true then _ else _) Q E s
  rw[xf (by rw[beq_builtin_none];exact uF)]
  refine xa (vT hT uX.lookup ?_)
  show wpAny _ _ (callSpecialIfBoundUnlessNone? (.ref a) "__hash__" _ >>= _) Q E s
  refine xa (wpAny_callSpecialIfBoundUnlessNone?_slot hT uX (xW uX hT F.entry_tuple_hash ?_ (F.args_tuple_hash_1 _)))
  show wpAny _ _ (Builtin.Tuple.tupleItemsOf (.ref a) >>= _) _ _ s
  refine xa (uo ho hd (xa ?_))
  rw[<- Array.forIn_toList]
  refine v7 _ (fun rest (b:Array Int) s'=>∃fst left tk,ds=fst++left/\s.toks<=tk/\A2 (Ek s.heap n) left rest/\b.toList=hL fst/\s'={ s with toks:=tk }) _ ?_ ?_ _ _ ⟨[],ds,s.toks,rfl,xh _,r,rfl,rfl⟩
  ·rintro x rest b s' ⟨fst,left,tk,rfl,ht,hl,hb,rfl⟩
   cases hl with
   | @cons k' _ ks' _ h1 hl'=>
    refine xa (zMf n h1 (by show A.units+1+n<cLine;lia) fun tk2 ht2=>?_)
    exact xg ⟨fst++[k'],ks',tk2,by simp,xp ht ht2,hl',by rw[zQv];simp[hb,hL],rfl⟩
  ·rintro b s' ⟨fst,left,tk,rfl,ht,hl,hb,rfl⟩
   cases hl
   rw[vh]at h
   show wpAny _ _ (retInt (Builtin.Tuple.tupleHashOf b.toList)) _ _ _
   rw[hb]
   refine wpAny_ret_mkInt ?_
   show wpAny _ _ (if(decide (-(2:Int) ^ 63<=Builtin.Tuple.tupleHashOf (hL fst)) && decide (Builtin.Tuple.tupleHashOf (hL fst)<2 ^ 63))=true then _ else _) Q E _
   have h':=h (tk+1) (Nat.le_succ_of_le ht)
   unfold hD reduceHash at h'
   by_cases hr:(decide (-(2:Int) ^ 63<=Builtin.Tuple.tupleHashOf (hL fst)) && decide (Builtin.Tuple.tupleHashOf (hL fst)<2 ^ 63))=true
   ·rw[xc hr]
    rw[xc hr]at h'
    exact xg h'
   ·rw[xf hr]
    rw[xf hr]at h'
    exact xa (vg (xg h'))
theorem zEu:∀(n f:Nat) {d:D}{v:Value}{A:Around}{E:Value->Shared->Prop}{s:Shared}{Q:Bool->Shared->Prop},Ek s.heap n d v->n<=f->Q false s->wpAny (model prog w) A (ofAClassStatement f v) Q E s
 | 0,f,_,_,A,E,s,Q,⟨i,t,e1,e2⟩,_,h=>by subst e1 e2;exact wpAny_of_eq (show ofAClassStatement f (.int i t)=pure false by cases f <;> rfl) h
 | n+1,0,_,_,A,E,s,Q,hk,hf,h=>by nofun
 | n+1,f+1,_,_,A,E,s,Q,hk,hf,h=>by
  have hk0:=hk
  obtain⟨ds,a,o,items,k,rfl,rfl,ho,hc,hd,r⟩:=hk
  have hT:=hk0.typeIs
  unfold ofAClassStatement
  refine xa (ue hT ?_)
  dsimp only
  rw[xc (by decide)]
  refine xa (xg ?_)
  rw[xf (by decide)]
  refine xa (vj ho hd (xa ?_))
  show wpAny _ _ (forIn items _ _) _ _ s
  rw[<- Array.forIn_toList]
  refine v7 _ (fun rest r s'=>r.1=none/\s'=s/\∃l,A2 (Ek s.heap n) l rest) _ ?_ ?_ _ _ ⟨rfl,rfl,_,r⟩
  ·rintro v rest r s' ⟨hr,rfl,l,al⟩
   cases al with
   | cons q al=>
    refine xa (zEu n f q (by nofun) ?_)
    rw[xf (by decide)]
    exact xg ⟨rfl,rfl,_,al⟩
  ·rintro⟨r1,r2⟩ s' ⟨hr,rfl,_⟩
   simp only at hr
   subst hr
   exact xg h
theorem zId:∀(n f:Nat) {d:D}{v:Value}{A:Around}{E:Value->Shared->Prop}{s:Shared}{Q:Bool->Shared->Prop},Ek s.heap n d v->n<=f->Q true s->wpAny (model prog w) A (hashByValue f v) Q E s
 | 0,f,_,_,A,E,s,Q,⟨i,t,e1,e2⟩,_,h=>by subst e1 e2;exact wpAny_of_eq (show hashByValue f (.int i t)=pure true by cases f <;> rfl) h
 | n+1,0,_,_,A,E,s,Q,hk,hf,h=>by nofun
 | n+1,f+1,_,_,A,E,s,Q,hk,hf,h=>by
  have hk0:=hk
  obtain⟨ds,a,o,items,k,rfl,rfl,ho,hc,hd,r⟩:=hk
  have hT:=hk0.typeIs
  unfold hashByValue
  refine xa (vT hT uX.lookup ?_)
  dsimp only
  refine xa (vj ho hd (xa ?_))
  show wpAny _ _ (forIn items _ _) _ _ s
  rw[<- Array.forIn_toList]
  refine v7 _ (fun rest r s'=>r.1=none/\s'=s/\∃l,A2 (Ek s.heap n) l rest) _ ?_ ?_ _ _ ⟨rfl,rfl,_,r⟩
  ·rintro v rest r s' ⟨hr,rfl,l,al⟩
   cases al with
   | cons q al=>
    refine xa (zId n f q (by nofun) ?_)
    rw[xf (by decide)]
    exact xg ⟨rfl,rfl,_,al⟩
  ·rintro⟨r1,r2⟩ s' ⟨hr,rfl,_⟩
   simp only at hr
   subst hr
   exact xg h
theorem zEs:∀(n f:Nat) {d:D}{v:Value}{A:Around}{E:Value->Shared->Prop}{s:Shared}{Q:Bool->Shared->Prop},Ek s.heap n d v->n<=f->Q true s->wpAny (model prog w) A (eqIsQuiet f v) Q E s
 | 0,f,_,_,A,E,s,Q,⟨i,t,e1,e2⟩,_,h=>by subst e1 e2;rw[eqIsQuiet_byValue _ (by rfl)];exact xg h
 | n+1,0,_,_,A,E,s,Q,hk,hf,h=>by nofun
 | n+1,f+1,_,_,A,E,s,Q,hk,hf,h=>by
  have hk0:=hk
  obtain⟨ds,a,o,items,k,rfl,rfl,ho,hc,hd,r⟩:=hk
  have hT:=hk0.typeIs
  unfold eqIsQuiet
  refine xa (vT hT F.slot_tuple_eq.lookup ?_)
  show wpAny _ _ (isInstance (.ref a) (.type "tuple") >>= _) _ _ s
  refine xa (vU hT ye ?_)
  simp only[vO,xP,xK]
  refine xa (vj ho hd (xa ?_))
  show wpAny _ _ (forIn items _ _) _ _ s
  rw[<- Array.forIn_toList]
  refine v7 _ (fun rest r s'=>r.1=none/\s'=s/\∃l,A2 (Ek s.heap n) l rest) _ ?_ ?_ _ _ ⟨rfl,rfl,_,r⟩
  ·rintro v rest r s' ⟨hr,rfl,l,al⟩
   cases al with
   | cons q al=>
    refine xa (zEs n f q (by nofun) ?_)
    simp only[vO,xP,xK]
    exact xg ⟨rfl,rfl,_,al⟩
  ·rintro⟨r1,r2⟩ s' ⟨hr,rfl,_⟩
   simp only at hr
   subst hr
   exact xg h
open Classical in
theorem zGw:∀(n:Nat) {d d':D}{v v':Value}{A:Around}{E:Value->Shared->Prop}{s:Shared}{Q:Bool->Shared->Prop},Ek s.heap n d v->Ek s.heap n d' v'->A.units+n<cLine->Q (decide (d=d')) s->wpAny (model prog w) A (eqBool v v') Q E s
 | 0,_,_,_,_,A,E,s,Q,⟨i,t,e1,e2⟩,⟨j,u,e3,e4⟩,_,h=>by
  subst e1 e2 e3 e4
  refine wpAny_eqBool_int ?_
  have:(i == j)=decide (D.int i=D.int j):=by
   by_cases q:i=j
   ·subst q;simp
   ·rw[xl (fun z=>q (by cases z;rfl))];simpa using q
  rw[this];exact h
 | n+1,_,_,_,_,A,E,s,Q,hx,hy,hu,h=>by
  have hx0:=hx
  have hy0:=hy
  obtain⟨ds,a,oa,xs,ka,rfl,rfl,hoa,hca,hda,ra⟩:=hx
  obtain⟨es,b,ob,ys,kb,rfl,rfl,hob,hcb,hdb,rb⟩:=hy
  unfold eqBool
  try with_reducible refine xG ?_
  show wpAny _ _ (if(Value.ref a == Value.ref b)=true then _ else _) Q E s
  by_cases hab:(Value.ref a == Value.ref b)=true
  ·rw[xc hab]
   have e:a=b:=by have:=eq_of_beq hab;injection this
   subst e
   have e2:=hx0.inj hy0
   rw[xo e2]at h
   exact xa (vg (xg h))
  ·rw[xf hab]
   suffices hc:wpAny (model prog w) A (call (.builtin "tuple.__eq__") [.ref a,.ref b]) (fun v s'=>v=.bool (decide (D.tup ds=D.tup es))/\s'=s) E s from
    xa (yg hx0.typeIs hy0.typeIs F.slot_tuple_eq (xJ hc (fun v s' q=>by
     obtain⟨rfl,rfl⟩:=q
     exact⟨(fun e=>nomatch e),ve h⟩) fun _ _ x=>x) (by nofun))
   refine xW F.slot_tuple_eq hx0.typeIs F.entry_tuple_eq ?_ (F.args_tuple_eq_2 _ _)
   have fin:∀c:Bool,c=decide (D.tup ds=D.tup es)->∃v,(PySem.Fin.done (.ret (.bool c)):PySem.Fin)=.done (.ret v)/\v=.bool (decide (D.tup ds=D.tup es))/\s=s:=fun c hc=>⟨_,rfl,by rw[hc],rfl⟩
   show wpAny _ _ (isInstance (.ref b) (.type "tuple") >>= _) _ _ s
   refine xa (vU hy0.typeIs ye ?_)
   simp only[vO,xP,xK]
   refine xa (uo hoa hda (xa (uo hob hdb (xa ?_))))
   refine v7 _ (fun rest r s'=>r.1=none/\s'=s/\∃(x' y':List D) (xs' ys':List Value),rest=List.zip xs' ys'/\A2 (Ek s.heap n) x' xs'/\A2 (Ek s.heap n) y' ys'/\(x'=y' <-> ds=es)/\(xs'.length == ys'.length)=(xs.size == ys.size)) _ ?_ ?_ _ _ ⟨rfl,rfl,ds,es,xs.toList,ys.toList,rfl,ra,rb,Iff.rfl,by simp⟩
   ·rintro⟨u,v⟩ rest r s' ⟨hr,rfl,x',y',xs',ys',hz,hx',hy',hdec,hlen⟩
    cases hx' with
    | nil=>simp at hz
    | @cons k1 u' x'' xs'' h1 hx''=>
     cases hy' with
     | nil=>simp at hz
     | @cons k2 v' y'' ys'' h2 hy''=>
      simp only[vZ,List.cons.injEq,Prod.mk.injEq]at hz
      obtain⟨⟨rfl,rfl⟩,rfl⟩:=hz
      refine xa (zGw n h1 h2 (by show A.units+1+n<cLine;lia) ?_)
      by_cases hk:k1=k2
      ·subst hk
       rw[xo rfl]
       simp only[vO,xP,xK]
       refine xg ⟨rfl,rfl,x'',y'',xs'',ys'',rfl,hx'',hy'',?_,by simpa using hlen⟩
       rw[<- hdec];simp
      ·rw[xl hk]
       simp only[Bool.not_false,xn]
       have hf:¬ ds=es:=fun z=>hk (by have:=hdec.mpr z;cases this;rfl)
       exact xa (xg (xg (xg (fin false (by rw[xl];intro z;cases z;exact hf rfl)))))
   ·rintro⟨r1,r2⟩ s' ⟨hr,rfl,x',y',xs',ys',hz,hx',hy',hdec,hlen⟩
    simp only at hr
    subst hr
    refine xg ?_
    have hfin:(xs.size == ys.size)=decide (D.tup ds=D.tup es):=by
     have e3:decide (D.tup ds=D.tup es)=decide (x'=y'):=xS.mpr (by rw[D.tup.injEq];exact hdec.symm)
     rw[e3,<- hlen]
     cases hx' with
     | nil=>
      cases hy' with
      | nil=>simp
      | cons _ _=>simp
     | cons _ _=>
      cases hy' with
      | nil=>simp
      | cons _ _=>simp at hz
    exact fin _ hfin
end
end EK
namespace DS
open PySem (Str)
noncomputable section
open Classical
mutual
noncomputable def blt:D->D->Bool
 | .int a,.int b=>decide (a<b)
 | .tup l,.tup m=>bltL l m
 | _,_=>false
noncomputable def bltL:List D->List D->Bool
 | [],[]=>false
 | [],_::_=>true
 | _::_,[]=>false
 | a::r,b::t=>if a=b then bltL r t else blt a b
end
noncomputable def lv:Nat->D->Prop
 | 0,d=>∃i,d=.int i
 | n+1,d=>∃l,d=.tup l/\∀x∈l,lv n x
theorem zAd (a b:D) (r t:List D):bltL (a::r) (b::t)=if a=b then bltL r t else blt a b:=by rw[bltL]
theorem zIo:∀(l:List D),bltL l l=false
 | []=>by rw[bltL]
 | a::r=>by rw[zAd,xc rfl];exact zIo r
theorem zH8 {n:Nat}{d:D}(h:lv n d):blt d d=false:=by
 cases n with
 | zero=>obtain⟨i,rfl⟩:=h;rw[blt];simp
 | succ n=>obtain⟨l,rfl,_⟩:=h;rw[blt];exact zIo l
theorem zH7:∀(n:Nat) {a b:D},lv n a->lv n b->a≠b->blt a b=true\/blt b a=true
 | 0,_,_,⟨i,e⟩,⟨j,e'⟩,h=>by
  subst e e'
  rw[blt,blt]
  have:i≠j:=fun z=>h (by rw[z])
  simp only[decide_eq_true_eq]
  lia
 | n+1,_,_,⟨l,e,hl⟩,⟨m,e',hm⟩,h=>by
  subst e e'
  rw[blt,blt]
  have hlm:l≠m:=fun z=>h (by rw[z])
  clear h
  induction l generalizing m with
  | nil=>
   cases m with
   | nil=>exact absurd rfl hlm
   | cons b t=>left;rw[bltL]
  | cons a r ih=>
   cases m with
   | nil=>right;rw[bltL]
   | cons b t=>
    rw[zAd,zAd]
    by_cases q:a=b
    ·subst q
     rw[xc rfl,xc rfl]
     exact ih (fun x hx=>hl x (.tail _ hx)) t (fun x hx=>hm x (.tail _ hx)) fun z=>hlm (by rw[z])
    ·rw[xf q,xf (xr q)]
     exact zH7 n (hl a (.head _)) (hm b (.head _)) q
theorem zIn:∀(n:Nat) {a b c:D},lv n a->lv n b->lv n c->blt a b=true->blt b c=true->blt a c=true
 | 0,_,_,_,⟨i,e⟩,⟨j,e'⟩,⟨k,e''⟩,h,h'=>by
  subst e e' e''
  rw[blt]at h h' ⊢
  simp only[decide_eq_true_eq]at *
  lia
 | n+1,_,_,_,⟨l,e,hl⟩,⟨m,e',hm⟩,⟨k,e'',hk⟩,h,h'=>by
  subst e e' e''
  rw[blt]at h h' ⊢
  induction l generalizing m k with
  | nil=>
   cases k with
   | nil=>cases m with
    | nil=>exact h
    | cons b t=>rw[bltL]at h';cases h'
   | cons c u=>rw[bltL]
  | cons a r ih=>
   cases m with
   | nil=>rw[bltL]at h;cases h
   | cons b t=>
    cases k with
    | nil=>rw[bltL]at h';cases h'
    | cons c u=>
     rw[zAd]at h h' ⊢
     by_cases q:a=b
     ·subst q
      rw[xc rfl]at h
      by_cases q2:a=c
      ·subst q2
       rw[xc rfl]at h' ⊢
       exact ih (fun x hx=>hl x (.tail _ hx)) t (fun x hx=>hm x (.tail _ hx)) u (fun x hx=>hk x (.tail _ hx)) h h'
      ·rw[xf q2]at h' ⊢;exact h'
     ·rw[xf q]at h
      by_cases q2:b=c
      ·subst q2;rw[xf q];exact h
      ·rw[xf q2]at h'
       have t1:=zIn n (hl a (.head _)) (hm b (.head _)) (hk c (.head _)) h h'
       rw[xf (fun z=>by subst z;rw[zH8 (hl _ (.head _))]at t1;cases t1)]
       exact t1
theorem zV1 {n:Nat}{a b:D}(ha:lv n a) (hb:lv n b) (h:blt a b=true):blt b a=false:=by
 cases e:blt b a with
 | false=>rfl
 | true=>have:=zIn n ha hb ha h e;rw[zH8 ha]at this;cases this
noncomputable def dle (a b:D):Prop:=blt b a=false
theorem zR2 {n:Nat}{a b c:D}(ha:lv n a) (hb:lv n b) (hc:lv n c) (h:dle a b) (h':dle b c):dle a c:=by
 unfold dle at *
 cases e:blt c a with
 | false=>rfl
 | true=>
  by_cases q:a=b
  ·subst q;rw[h']at e;cases e
  ·rcases zH7 n ha hb q with z|z
   ·have:=zIn n hc ha hb e z;rw[h']at this;cases this
   ·rw[h]at z;cases z
theorem zPr {n:Nat}{a b:D}(ha:lv n a) (hb:lv n b) (h:dle a b) (h':dle b a):a=b:=by
 apply u3
 intro q
 rcases zH7 n ha hb q with z|z
 ·rw[show blt a b=false from h']at z;cases z
 ·rw[show blt b a=false from h]at z;cases z
noncomputable def ins (x:D):List D->List D
 | []=>[x]
 | y::l=>if blt y x=true then y::ins x l else x::y::l
noncomputable def srt:List D->List D
 | []=>[]
 | x::l=>ins x (srt l)
theorem ins_perm (x:D):∀l,(ins x l).Perm (x::l)
 | []=>.refl _
 | y::l=>by
  unfold ins
  split
  ·exact((ins_perm x l).cons y).trans (List.Perm.swap ..)
  ·exact .refl _
theorem zBo:∀l,(srt l).Perm l
 | []=>.refl _
 | x::l=>(ins_perm x _).trans ((zBo l).cons x)
noncomputable abbrev Up (l:List D):Prop:=l.Pairwise dle
theorem ins_up {n:Nat}{x:D}:∀{l:List D},lv n x->(∀y∈l,lv n y)->Up l->Up (ins x l)
 | [],_,_,_=>List.pairwise_singleton _ _
 | y::l,hx,hl,h=>by
  have h':=vJ.mp h
  unfold ins
  split
  ·rename_i q
   refine vJ.mpr ⟨fun z hz=>?_,ins_up hx (fun z hz=>hl z (.tail _ hz)) h'.2⟩
   rcases xk.mp ((ins_perm x l).mem_iff.mp hz)with rfl|hz
   ·exact zV1 (hl y (.head _)) hx q
   ·exact h'.1 z hz
  ·rename_i q
   refine vJ.mpr ⟨fun z hz=>?_,h⟩
   rcases xk.mp hz with rfl|hz
   ·exact uD.mpr q
   ·exact zR2 hx (hl y (.head _)) (hl z (.tail _ hz)) (uD.mpr q) (h'.1 z hz)
theorem zHm {n:Nat}:∀{l:List D},(∀y∈l,lv n y)->Up (srt l)
 | [],_=>.nil
 | x::l,h=>ins_up (h x (.head _)) (fun y hy=>h y (.tail _ ((zBo l).mem_iff.mp hy))) (zHm fun y hy=>h y (.tail _ hy))
theorem up_eq {n:Nat}:∀{l m:List D},(∀y∈l,lv n y)->l.Perm m->Up l->Up m->l=m
 | [],m,_,p,_,_=>by rw[List.nil_perm.mp p]
 | a::l,[],_,p,_,_=>by have:=p.length_eq;simp at this
 | a::l,b::m,hv,p,h,h'=>by
  have ha:=vJ.mp h
  have hb:=vJ.mp h'
  have e:a=b:=by
   by_cases z:a=b
   ·exact z
   ·have m1:b∈l:=by
     rcases xk.mp (p.mem_iff.mpr (xN))with q|q
     ·exact absurd q.symm z
     ·exact q
    have m2:a∈m:=by
     rcases xk.mp (p.mem_iff.mp (xN))with q|q
     ·exact absurd q z
     ·exact q
    exact zPr (hv a (.head _)) (hv b (.tail _ m1)) (ha.1 b m1) (hb.1 a m2)
  subst e
  rw[up_eq (fun y hy=>hv y (.tail _ hy)) (List.Perm.cons_inv p) ha.2 hb.2]
theorem zJy {n:Nat}{l m:List D}(hv:∀y∈l,lv n y) (p:l.Perm m) (h:Up l):l=srt m:=up_eq hv (p.trans (zBo m).symm) h (zHm fun y hy=>hv y (p.mem_iff.mpr hy))
noncomputable def rkD (l:List D) (d:D):Nat:=(l.filter fun e=>blt e d).length
theorem zU0 {p q:D->Bool}:∀(l:List D),(∀x∈l,p x=true->q x=true)->(l.filter p).length<=(l.filter q).length
 | [],_=>xh _
 | x::l,h=>by
  have ih:=zU0 l fun y hy=>h y (.tail _ hy)
  by_cases c:p x=true
  ·rw[v8 c,v8 (h x (.head _) c)];simpa using ih
  ·rw[uE c]
   by_cases c2:q x=true
   ·rw[v8 c2,xA];lia
   ·rw[uE c2];exact ih
theorem zYc {p q:D->Bool}{y:D}(hy:p y=false) (hy':q y=true):∀(l:List D),y∈l->(∀x∈l,p x=true->q x=true)->(l.filter p).length<(l.filter q).length
 | x::l,hm,h=>by
  rcases xk.mp hm with e|hm
  ·subst e
   rw[uE (by rw[hy];decide),v8 hy',xA]
   have:=zU0 l fun z hz=>h z (.tail _ hz)
   lia
  ·have ih:=zYc hy hy' l hm fun z hz=>h z (.tail _ hz)
   by_cases c:p x=true
   ·rw[v8 c,v8 (h x (.head _) c)];simpa using ih
   ·rw[uE c]
    by_cases c2:q x=true
    ·rw[v8 c2,xA];lia
    ·rw[uE c2];exact ih
theorem zS2 {n:Nat}{l:List D}{a b:D}(hl:∀x∈l,lv n x) (ha:a∈l) (hb:b∈l):decide (rkD l a<rkD l b)=blt a b:=by
 cases e:blt a b with
 | true=>exact xo (zYc (p:=fun e=>blt e a) (zH8 (hl a ha)) e l ha fun x hx q=>zIn n (hl x hx) (hl a ha) (hl b hb) q e)
 | false=>
  refine xl (Nat.not_lt.mpr (zU0 l fun x hx q=>?_))
  cases e2:blt x a with
  | true=>rfl
  | false=>exact absurd q (by rw[show blt x b=false from zR2 (hl b hb) (hl a ha) (hl x hx) e e2];decide)
noncomputable def dedup:List D->List D
 | []=>[]
 | x::l=>if x∈l then dedup l else x::dedup l
theorem mem_dedup {x:D}:∀{l:List D},x∈dedup l <-> x∈l
 | []=>Iff.rfl
 | y::l=>by
  unfold dedup
  split
  ·rename_i h
   rw[mem_dedup]
   constructor
   ·exact fun q=>.tail _ q
   ·intro q
    rcases xk.mp q with rfl|q
    ·exact h
    ·exact q
  ·rw[xk,xk,mem_dedup]
theorem zCr:∀{l:List D},(dedup l).Nodup
 | []=>.nil
 | y::l=>by
  unfold dedup
  split
  ·exact zCr
  ·rename_i h
   exact vo.mpr ⟨fun q=>h (mem_dedup.mp q),zCr⟩
theorem zTd {l m:List D}(h:l.Nodup) (h':m.Nodup) (e:∀x,x∈l <-> x∈m):l.Perm m:=by
 induction l generalizing m with
 | nil=>
  cases m with
  | nil=>exact .refl _
  | cons b t=>exact absurd ((e b).mpr (.head _)) (by simp)
 | cons a l ih=>
  have ha:=(e a).mp (.head _)
  obtain⟨u,v,rfl⟩:=List.append_of_mem ha
  have hn:=vo.mp h
  have h2:=(uP.nodup_iff).mp h'
  have hm:=vo.mp h2
  refine(List.Perm.cons a (ih hn.2 hm.2 fun x=>?_)).trans uP.symm
  constructor
  ·intro hx
   have:=(e x).mp (.tail _ hx)
   rcases xk.mp ((uP).mem_iff.mp this)with rfl|q
   ·exact absurd hx hn.1
   ·exact q
  ·intro hx
   have:=(e x).mpr ((uP).mem_iff.mpr (.tail _ hx))
   rcases xk.mp this with rfl|q
   ·exact absurd hx hm.1
   ·exact q
end
end DS
namespace EK
open PySem PyProof.Rows PySem.W
open DS (D blt bltL zAd)
open Classical
section
variable {prog:Program}{w:World}
theorem zDw {n:Nat}(ih:∀{d d':D}{v v':Value}{A:Around}{E:Value->Shared->Prop}{s:Shared}{Q:Value->Shared->Prop},Ek s.heap n d v->Ek s.heap n d' v'->A.units+n<cLine->Q (.bool (blt d d')) s->wpAny (model prog w) A (richCompare .Lt v v') Q E s)
  {d d':D}{a b:Addr}{A:Around}{E:Value->Shared->Prop}{s:Shared}{Q:Value->Shared->Prop}(hx:Ek s.heap (n+1) d (.ref a)) (hy:Ek s.heap (n+1) d' (.ref b)) (hu:A.units+(n+1)<cLine) (h:Q (.bool (blt d d')) s):wpAny (model prog w) A (call (.builtin "tuple.__lt__") [.ref a,.ref b]) Q E s:=by
 have hx0:=hx
 have hy0:=hy
 obtain⟨ds,a',oa,xs,ka,rfl,ea,hoa,hca,hda,ra⟩:=hx
 cases ea
 obtain⟨es,b',ob,ys,kb,rfl,eb,hob,hcb,hdb,rb⟩:=hy
 cases eb
 refine xW PySem.F.slot_tuple_lt hx0.typeIs PySem.F.entry_tuple_lt ?_ (PySem.F.args_tuple_lt_2 _ _)
 rw[blt]at h
 show wpAny _ _ (isInstance (.ref b) (.type "tuple") >>= _) _ _ s
 refine xa (vU hy0.typeIs ye ?_)
 simp only[vO,xP,xK]
 refine xa (uo hoa hda (xa (uo hob hdb (xa ?_))))
 refine v7 _ (fun rest r s'=>r.1=none/\s'=s/\∃(x' y':List D) (xs' ys':List Value),rest=List.zip xs' ys'/\A2 (Ek s.heap n) x' xs'/\A2 (Ek s.heap n) y' ys'/\bltL x' y'=bltL ds es/\decide (xs'.length<ys'.length)=decide (xs.size<ys.size)) _ ?_ ?_ _ _ ⟨rfl,rfl,ds,es,xs.toList,ys.toList,rfl,ra,rb,rfl,by simp⟩
 ·rintro⟨u,v⟩ rest r s' ⟨hr,rfl,x',y',xs',ys',hz,hx',hy',hdec,hlen⟩
  cases hx' with
  | nil=>simp at hz
  | @cons k1 u' x'' xs'' h1 hx''=>
   cases hy' with
   | nil=>simp at hz
   | @cons k2 v' y'' ys'' h2 hy''=>
    simp only[vZ,List.cons.injEq,Prod.mk.injEq]at hz
    obtain⟨⟨rfl,rfl⟩,rfl⟩:=hz
    refine xa (zGw n h1 h2 (by show A.units+1+n<cLine;lia) ?_)
    rw[zAd]at hdec
    by_cases hk:k1=k2
    ·subst hk
     rw[xc rfl]at hdec
     rw[xo rfl]
     simp only[vO,xP,xK]
     exact xg ⟨rfl,rfl,x'',y'',xs'',ys'',rfl,hx'',hy'',hdec,by simpa using hlen⟩
    ·rw[xf hk]at hdec
     rw[xl hk]
     simp only[Bool.not_false,xn]
     refine xa (vg (xa (ih h1 h2 (by show A.units+1+n<cLine;lia) ?_)))
     refine xa (xg (xg (xg ⟨_,rfl,?_⟩)))
     rw[hdec];exact h
 ·rintro⟨r1,r2⟩ s' ⟨hr,rfl,x',y',xs',ys',hz,hx',hy',hdec,hlen⟩
  simp only at hr
  subst hr
  have hfin:bltL ds es=decide (xs.size<ys.size):=by
   rw[<- hdec,<- hlen]
   cases hx' with
   | nil=>
    cases hy' with
    | nil=>rw[bltL];rfl
    | cons _ _=>rw[bltL];simp
   | cons _ _=>
    cases hy' with
    | nil=>rw[bltL];simp
    | cons _ _=>simp at hz
  rw[hfin]at h
  exact xg ⟨_,rfl,h⟩
theorem zPi:∀(n:Nat) {d d':D}{v v':Value}{A:Around}{E:Value->Shared->Prop}{s:Shared}{Q:Value->Shared->Prop},Ek s.heap n d v->Ek s.heap n d' v'->A.units+n<cLine->Q (.bool (blt d d')) s->wpAny (model prog w) A (richCompare .Lt v v') Q E s
 | 0,_,_,_,_,A,E,s,Q,⟨i,t,e1,e2⟩,⟨j,u,e3,e4⟩,_,h=>by
  subst e1 e2 e3 e4
  rw[blt]at h
  exact(lt_int h:wpAny (model prog w) A (compareOp .Lt (.int i t) (.int j u)) Q E s)
 | n+1,_,_,_,_,A,E,s,Q,hx,hy,hu,h=>by
  have hx0:=hx
  have hy0:=hy
  obtain⟨ds,a,oa,xs,ka,rfl,rfl,hoa,hca,hda,ra⟩:=hx
  obtain⟨es,b,ob,ys,kb,rfl,rfl,hob,hcb,hdb,rb⟩:=hy
  exact yg hx0.typeIs hy0.typeIs PySem.F.slot_tuple_lt (zDw (fun {d d' v v' A E s Q}=>zPi n) hx0 hy0 hu ⟨(fun e=>nomatch e),h⟩) (by nofun)
theorem zLd (n:Nat) {d d':D}{v v':Value}{A:Around}{E:Value->Shared->Prop}{s:Shared}{Q:Bool->Shared->Prop}(hx:Ek s.heap n d v) (hy:Ek s.heap n d' v') (hu:A.units+n<cLine) (h:Q (blt d d') s) (b:Bool):wpAny (model prog w) A (oneLt' b v v') Q E s:=by
 rw[oneLt'_eq]
 cases b with
 | false=>
  simp only[xP,xK]
  exact xa (zPi n hx hy hu (ve h))
 | true=>
  simp only[xn]
  refine xa (wpAny_cRoomFor_or (.inr (by nofun)) ?_)
  cases n with
  | zero=>
   obtain⟨i,t,rfl,rfl⟩:=hx
   obtain⟨j,u,rfl,rfl⟩:=hy
   rw[blt]at h
   exact xa (wpAny_callSpecialIfBound?_slot (typeIs_int s i t) slot_int_lt (call_int_lt (ve h)))
  | succ n=>
   have hx0:=hx
   have hy0:=hy
   obtain⟨ds,a,oa,xs,ka,rfl,rfl,hoa,hca,hda,ra⟩:=hx
   obtain⟨es,b,ob,ys,kb,rfl,rfl,hob,hcb,hdb,rb⟩:=hy
   exact xa (wpAny_callSpecialIfBound?_slot hx0.typeIs PySem.F.slot_tuple_lt (zDw (fun {d d' v v' A E s Q}=>zPi n) hx0 hy0 hu (ve h)))
theorem zQo {n:Nat}{A:Around}{b:Bool}{s:Shared}{Q:Bool->Shared->Prop}(hu:A.units+n<cLine) {fin:Bool}:∀{ds es:List D}{xs ys:List Value}(i:Nat),A2 (Ek s.heap n) ds xs->A2 (Ek s.heap n) es ys->fin=decide (ds.length<es.length)->Q (bltL ds es) s->KatLex prog w A b fin Q (xs.zip ys) i s
 | _,_,_,_,i,.nil,.nil,hf,h=>by rw[bltL]at h;rw[hf];exact h
 | _,_,_,_,i,.nil,.cons _ _,hf,h=>by rw[bltL]at h;rw[List.zip_nil_left,hf];exact kat_nil (by simpa using h)
 | _,_,_,_,i,.cons _ _,.nil,hf,h=>by rw[bltL]at h;rw[List.zip_nil_right,hf];exact kat_nil (by simpa using h)
 | _,_,_,_,i,.cons (a:=d) h1 r1,.cons (a:=e) h2 r2,hf,h=>by
  rw[zAd]at h
  rw[vZ]
  refine kat_cons (zGw n h1 h2 hu ?_)
  by_cases q:d=e
  ·rw[xc q]at h
   rw[xo q]
   exact kat_yes (zQo hu (i+1) r1 r2 (by rw[hf];simp) h)
  ·rw[xf q]at h
   rw[xl q]
   exact kat_no (zLd n h1 h2 hu h _)
inductive Kd:SortKind->Nat->Prop where
 | gen {n:Nat}:Kd general' n
 | one {n:Nat}:Kd oneType' n
 | tup {n:Nat}{b:Bool}:Kd (tuples' b) (n+1)
theorem zXt {κ:SortKind}{n:Nat}(hκ:Kd κ n) {d d':D}{v v':Value}{A:Around}{E:Value->Shared->Prop}{s:Shared}{Q:Bool->Shared->Prop}(hx:Ek s.heap n d v) (hy:Ek s.heap n d' v') (hu:A.units+n<cLine) (h:Q (blt d d') s):wpAny (model prog w) A (keyLt' κ v v') Q E s:=by
 cases hκ with
 | gen=>exact(zLd n hx hy hu h false:wpAny (model prog w) A (oneLt' false v v') Q E s)
 | one=>rw[keyLt'_oneType];exact zLd n hx hy hu h true
 | @tup n b=>
  obtain⟨ds,a,oa,xs,ka,rfl,rfl,hoa,hca,hda,ra⟩:=hx
  obtain⟨es,c,ob,ys,kb,rfl,rfl,hob,hcb,hdb,rb⟩:=hy
  rw[blt]at h
  exact kat_lt hoa hda hob hdb (zQo (by nofun) 0 ra rb (by rw[ra.length,rb.length];simp) h)
end
end EK
namespace EK
open PySem PyProof.Rows PySem.W TM
open DS (D blt bltL lv srt rkD zS2 zJy Up dle)
open Classical
theorem Ek.lv {h:Heap}:∀{n:Nat}{d:D}{v:Value},Ek h n d v->lv n d
 | 0,_,_,⟨i,t,e1,e2⟩=>⟨i,e1⟩
 | n+1,_,_,⟨ds,a,o,items,k,e1,e2,h1,h2,h3,r⟩=>⟨ds,e1,by
  clear e1 h3
  generalize items.toList=vs at r
  induction r with
  | nil=>intro x hx;cases hx
  | cons q _ ih=>
   intro x hx
   rcases xk.mp hx with rfl|hx
   ·exact Ek.lv q
   ·exact ih x hx⟩
section
variable {prog:Program}{w:World}{A:Around}{E:Value->Shared->Prop}{s:Shared}{n:Nat}{ds:List D}{vs:List Value}
noncomputable def ekTy:Nat->Value
 | 0=>.type "int"
 | _+1=>.type "tuple"
theorem zEl {M:Model}{d:D}{v:Value}(h:Ek s.heap n d v):Looks M s.heap (typeOf v) (ekTy n):=by
 cases n with
 | zero=>obtain⟨i,t,rfl,rfl⟩:=h;exact .now
 | succ n=>
  obtain⟨ds,a,o,items,k,rfl,rfl,ho,hc,hd,r⟩:=h
  have:Looks M s.heap (typeOf (.ref a)) o.cls:=(Looks.ld ho).andThen .now
  rw[hc]at this;exact this
theorem A2.mem_r {α β:Type}{R:α->β->Prop}{l:List α}{m:List β}(h:A2 R l m):∀b∈m,∃a∈l,R a b:=by
 induction h with
 | nil=>intro b hb;cases hb
 | cons q _ ih=>
  intro b hb
  rcases xk.mp hb with rfl|hb
  ·exact⟨_,.head _,q⟩
  ·obtain⟨a,ha,r⟩:=ih b hb;exact⟨a,.tail _ ha,r⟩
theorem A2.mem_l {α β:Type}{R:α->β->Prop}{l:List α}{m:List β}(h:A2 R l m):∀a∈l,∃b∈m,R a b:=by
 induction h with
 | nil=>intro b hb;cases hb
 | cons q _ ih=>
  intro b hb
  rcases xk.mp hb with rfl|hb
  ·exact⟨_,.head _,q⟩
  ·obtain⟨a,ha,r⟩:=ih b hb;exact⟨a,.tail _ ha,r⟩
theorem zQk {M:Model}{vs:List Value}{T:Value}{Q:Option Value->Shared->Prop}(hT:∀v∈vs,Looks M s.heap (typeOf v) T) (h:∀r,Q r s):wpAny M A (oneTypeOnly' vs.toArray) Q E s:=by
 rw[oneTypeOnly'_eq,List.mapM_toArray,map_eq_pure_bind]
 refine xa (xa (kas_mapM _ (fun v hv Q' hq=>(hT v hv).here hq) (xg ?_)))
 split
 ·exact xg (h _)
 ·exact xg (h _)
theorem firsts {M:Model}:∀{ds:List D}{vs:List Value}{Q:List (Option Value)->Shared->Prop},A2 (Ek s.heap n) ds vs->(∀fs:List (Option Value),fs.length=vs.length->(n=0->∀f∈fs,f=none)->(∀f∈fs,∀v,f=some v->∃m d,n=m+1/\Ek s.heap m d v)->Q fs s)->wpAny M A (vs.mapM firstOfTuple') Q E s
 | _,_,Q,.nil,h=>by rw[List.mapM_nil];exact xg (h [] rfl (fun _ f hf=>nomatch hf) fun f hf=>nomatch hf)
 | _,_,Q,.cons (b:=v) (m:=vs) q r,h=>by
  rw[List.mapM_cons]
  refine xa ?_
  have go:∀f:Option Value,(n=0->f=none)->(∀v,f=some v->∃m d,n=m+1/\Ek s.heap m d v)->wpAny M A (vs.mapM firstOfTuple' >>= fun bs=>pure (f::bs)) Q E s:=fun f h0 h1=>
   xa (firsts r fun fs hl hz hs=>xg (h (f::fs) (by simp[hl]) (fun z g hg=>by
    rcases xk.mp hg with rfl|hg
    ·exact h0 z
    ·exact hz z g hg) fun g hg=>by
    rcases xk.mp hg with rfl|hg
    ·exact h1
    ·exact hs g hg))
  have lk:=zEl (M:=M) q
  rw[kas_first_eq]
  cases n with
  | zero=>
   obtain⟨i,t,rfl,rfl⟩:=q
   refine xa (Looks.here (show Looks M s.heap (typeOf (.int i t)) (.type "int")from .now) ?_)
   rw[xc (by decide)]
   exact xg (go none (fun _=>rfl) fun v e=>nomatch e)
  | succ n=>
   obtain⟨ds,a,o,items,k,rfl,rfl,ho,hc,hd,r'⟩:=q
   refine xa (lk.here ?_)
   rw[show ekTy (n+1)=.type "tuple" from rfl,xf (by decide)]
   refine xa (listItems_at ho hd (xg (go _ (fun z=>nomatch z) fun v e=>?_)))
   obtain⟨d,hd',rr⟩:=r'.mem_r v (by obtain⟨z,e⟩:=x4.mp e;rw[<- e];simp)
   exact⟨n,d,rfl,rr⟩
theorem zTn {Q:SortKind->Shared->Prop}(h:A2 (Ek s.heap n) ds vs) (hne:vs≠[]) (hQ:∀κ,Kd κ n->Q κ s):wpAny (model prog w) A (keyKind' vs.toArray) Q E s:=by
 rw[kat_kind_eq,List.mapM_toArray,map_eq_pure_bind]
 refine xa (xa (firsts h fun fs hl hz hs=>xg ?_))
 by_cases q:(fs.toArray.all fun x=>x.isSome)=true
 ·rw[xc q]
  have hn:∃m,n=m+1:=by
   cases n with
   | succ m=>exact⟨m,rfl⟩
   | zero=>
    exfalso
    match fs,hl with
    | [],hl=>exact hne (List.length_eq_zero_iff.mp hl.symm)
    | f::fs,hl=>
     have:=hz rfl f (.head _)
     subst this
     simp at q
  obtain⟨m,rfl⟩:=hn
  refine xa (vg ?_)
  have e:fs.toArray.filterMap id=(fs.filterMap id).toArray:=by simp
  rw[e]
  refine xa (zQk (T:=ekTy m) (fun v hv=>?_) fun r=>xg (hQ _ .tup))
  obtain⟨f,hf,e2⟩:=uv.mp hv
  obtain⟨m',d,e3,hk⟩:=hs f hf v e2
  cases e3
  exact zEl hk
 ·rw[xf q]
  split
  ·exact xg (hQ _ .gen)
  ·refine xa (zQk (T:=ekTy n) (fun v hv=>?_) fun r=>?_)
   ·obtain⟨d,_,hk⟩:=h.mem_r v hv
    exact zEl hk
   ·split
    ·exact xg (hQ _ .one)
    ·exact xg (hQ _ .gen)
noncomputable def kd (h:Heap) (n:Nat) (v:Value):D:=if z:∃d,Ek h n d v then choose z else .non
theorem zGr {h:Heap}{d:D}{v:Value}(q:Ek h n d v):kd h n v=d:=by
 have z:∃d,Ek h n d v:=⟨d,q⟩
 unfold kd
 rw[dif_pos z]
 exact(choose_spec z).inj q
theorem zXu {h:Heap}(r:A2 (Ek h n) ds vs):vs.map (kd h n)=ds:=by
 induction r with
 | nil=>rfl
 | cons q _ ih=>rw[xx,zGr q,ih]
theorem yBg {h:Heap}{vs:List Value}(al:∀v∈vs,∃d,Ek h n d v):A2 (Ek h n) (vs.map (kd h n)) vs:=by
 induction vs with
 | nil=>exact .nil
 | cons v vs ih=>
  obtain⟨d,q⟩:=al v (.head _)
  exact .cons (by rw[zGr q];exact q) (ih fun u hu=>al u (.tail _ hu))
theorem zHh:∀(l:List Value),l.zip l=l.map fun v=>(v,v)
 | []=>rfl
 | x::l=>by rw[vZ,zHh l];rfl
theorem zNo {κ:SortKind}(hκ:Kd κ n) (hz:vs.length<=63) (h:A2 (Ek s.heap n) ds vs) (hu:A.units+n<cLine) {Q:SortSt->Shared->Prop}
  (hQ:∀(st:SortSt) (vs':List Value),vs'.Perm vs->A2 (Ek s.heap n) (srt ds) vs'->failedOf st=none->(arrOf st).map (·.2)=vs'.toArray->Q st s):
  wpAny (model prog w) A ((sortRuns').run (SortSt.mk' κ (vs.toArray.zip vs.toArray) #[] 7 none)) (fun r s'=>Q r.2 s') E s:=by
 have za:(vs.toArray.zip vs.toArray).toList=vs.map fun v=>(v,v):=by
  rw[Array.toList_zip]
  exact zHh vs
 have mem:∀x∈vs.toArray.zip vs.toArray,∃v∈vs,x=(v,v):=fun x hx=>by
  have:x∈vs.map fun v=>(v,v):=by rw[<- za];exact uY.mpr hx
  obtain⟨v,hv,e⟩:=xB.mp this
  exact⟨v,hv,e.symm⟩
 have C:Cm prog w A s κ (fun x=>rkD ds (kd s.heap n x.1)) (fun x=>x∈vs.toArray.zip vs.toArray):=fun x y hx hy Q E' q=>by
  obtain⟨v,hv,rfl⟩:=mem x hx
  obtain⟨u,hu',rfl⟩:=mem y hy
  obtain⟨d,hd,k1⟩:=h.mem_r v hv
  obtain⟨e,he,k2⟩:=h.mem_r u hu'
  refine zXt hκ k1 k2 hu ?_
  have hl:∀x∈ds,lv n x:=fun x hx=>by obtain⟨b,_,r⟩:=h.mem_l x hx;exact r.lv
  have q2:Q (decide (rkD ds (kd s.heap n v)<rkD ds (kd s.heap n u))) s:=q
  rw[zGr k1,zGr k2,zS2 hl hd he]at q2
  exact q2
 refine xJ (w_sr (Q:=fun _ st=>∃vs':List Value,vs'.Perm vs/\A2 (Ek s.heap n) (srt ds) vs'/\failedOf st=none/\(arrOf st).map (·.2)=vs'.toArray) C (by simpa using hz) (fun x hx=>hx) ⟨.refl _,rfl,rfl⟩ rfl fun st' B so=>?_) (fun r s' q=>?_) fun _ _ e=>e
 ·have pm:(arrOf st').toList.Perm (vs.map fun v=>(v,v)):=by rw[<- za];exact Array.perm_iff_toList_perm.mp B.perm
  have p2:((arrOf st').toList.map (·.2)).Perm vs:=by
   have:=pm.map (·.2)
   rw[vd]at this
   rwa[show vs.map ((fun x:Value × Value=>x.2) ∘ fun v=>(v,v))=vs from List.map_id' vs]at this
  have al:∀v∈(arrOf st').toList.map (·.2),∃d,Ek s.heap n d v:=fun v hv=>by
   obtain⟨d,_,q⟩:=h.mem_r v (p2.mem_iff.mp hv)
   exact⟨d,q⟩
  have a2:=yBg al
  refine⟨_,p2,?_,B.failed,by apply Array.toList_inj.mp;rw[Array.toList_map]⟩
  have pd:(((arrOf st').toList.map (·.2)).map (kd s.heap n)).Perm ds:=by
   have:=p2.map (kd s.heap n)
   rwa[zXu h]at this
  have up:Up (((arrOf st').toList.map (·.2)).map (kd s.heap n)):=by
   have hl:∀x∈ds,lv n x:=fun x hx=>by obtain⟨b,_,r⟩:=h.mem_l x hx;exact r.lv
   have sz:=B.size
   rw[<- sz]at so
   have pw:=so.pw
   rw[vd]
   refine List.pairwise_map.mpr (pw.imp_of_mem fun {x y} hx hy q=>?_)
   have ex:∀x∈(arrOf st').toList,x.1=x.2/\kd s.heap n x.2∈ds:=fun x hx=>by
    obtain⟨v,hv,rfl⟩:=xB.mp (pm.mem_iff.mp hx)
    obtain⟨d,hd,k⟩:=h.mem_r v hv
    exact⟨rfl,by show kd s.heap n v∈ds;rw[zGr k];exact hd⟩
   obtain⟨e1,m1⟩:=ex x hx
   obtain⟨e2,m2⟩:=ex y hy
   dsimp only at q
   rw[e1,e2]at q
   show blt (kd s.heap n y.2) (kd s.heap n x.2)=false
   rw[<- zS2 hl m2 m1]
   exact xl (by nofun)
  rw[<- zJy (fun y hy=>by obtain⟨b,_,r⟩:=a2.mem_l y hy;exact r.lv) pd up]
  exact a2
 ·obtain⟨rfl,vs',a,b,c,d⟩:=q
  exact hQ _ vs' a b c d
theorem Ek.kept' {h h':Heap}{a:Addr}{o₀:Obj}(ho:h.get? a=some o₀) (hc:o₀.cls≠.type "tuple") (k:∀b o,b≠a->h.get? b=some o->h'.get? b=some o) {d:D}{v:Value}(x:Ek h n d v):Ek h' n d v:=
 x.kept fun b o e ec=>k b o (fun z=>by subst z;rw[ho]at e;cases e;exact hc ec) e
theorem zKa {a:Addr}{c₀:Nat}{P:PySem.Fin->Shared->Prop}(ho:s.heap.get? a=some (seqObj "list" vs.toArray c₀)) (hk:A2 (Ek s.heap n) ds vs) (hz:vs.length<=63) (hu:A.units+n<cLine)
  (h:∀(vs':List Value) (c:Nat) (h':Heap),vs'.Perm vs->A2 (Ek h' n) (srt ds) vs'->(∀b o,b≠a->s.heap.get? b=some o->h'.get? b=some o)->h'.get? a=some (seqObj "list" vs'.toArray c)->P (.done (.ret .none)) { s with heap:=h' }):
  wpAny (model prog w) A (Builtin.«list.sort» ⟨[.ref a],[]⟩) P E s:=by
 have lz:vs.length<=sizeLine:=by rw[xZ];lia
 rw[list_sort_plain]
 refine xa (listItems_at ho rfl (xa (listUpdate_at ho rfl ?_ (by simpa using lz) (x8 _))))
 obtain⟨e1,ho1⟩:∃e1,(s.heap.update a (Obj.mapSeq fun _=>(#[]:Array Value))).get? a=some (seqObj "list" #[] e1):=⟨_,get?_update_seq ho fun _=>#[]⟩
 have k1:∀b o,b≠a->s.heap.get? b=some o->(s.heap.update a (Obj.mapSeq fun _=>(#[]:Array Value))).get? b=some o:=fun b o hb e=>(vt _ _ (xr hb)).trans e
 generalize s.heap.update a (Obj.mapSeq fun _=>(#[]:Array Value))=g1 at ho1 k1 ⊢
 refine xa (seqEpoch_at ho1 rfl (xa (wpAny_newTuple (xa (wpAny_newList (xG ?_) (x8 _))) (by simpa using lz))))
 have ho2:=xi (seqObj "list" #[] 0) (xi (seqObj "tuple" vs.toArray 0) ho1)
 have k2:∀b o,b≠a->s.heap.get? b=some o->((g1.push (seqObj "tuple" vs.toArray 0)).push (seqObj "list" #[] 0)).get? b=some o:=fun b o hb e=>xi _ (xi _ (k1 b o hb e))
 show wpAny (model prog w) A _ P E { s with heap:=(g1.push (seqObj "tuple" vs.toArray 0)).push (seqObj "list" #[] 0) }
 generalize (g1.push (seqObj "tuple" vs.toArray 0)).push (seqObj "list" #[] 0)=g2 at ho2 k2 ⊢
 dsimp only
 have hk2:=hk.imp fun _ _ q=>q.kept' ho (show Value.type "list"≠Value.type "tuple" by decide) k2
 have fin:∀(st:SortSt) (vs':List Value),vs'.Perm vs->A2 (Ek g2 n) (srt ds) vs'->failedOf st=none->(arrOf st).map (·.2)=vs'.toArray->
   wpAny (model prog w) A (do
    let touched:=(<- seqEpoch a) != e1
    Builtin.List.listUpdate (.ref a) fun _=>(arrOf st).map (·.2)
    if let some e:=failedOf st then rule "list.sort.comparison-raised";throw e
    if touched then rule "list.sort.modified";raiseError "ValueError" "list modified during sort"
    ret .none) P E { s with heap:=g2 }:=fun st vs' pm a2 hf ha=>by
  refine xa (seqEpoch_at ho2 rfl ?_)
  rw[ha]
  refine xa (listUpdate_at ho2 rfl ?_ (x8 _) (by simp;rw[pm.length_eq];exact Nat.le_succ_of_le lz))
  rw[hf]
  simp only[bne_self_eq_false,xP,xK]
  obtain⟨c,hc⟩:∃c,(g2.update a (Obj.mapSeq fun _=>vs'.toArray)).get? a=some (seqObj "list" vs'.toArray c):=⟨_,get?_update_seq ho2 fun _=>vs'.toArray⟩
  have k3:∀b o,b≠a->g2.get? b=some o->(g2.update a (Obj.mapSeq fun _=>vs'.toArray)).get? b=some o:=fun b o hb e=>(vt _ _ (xr hb)).trans e
  exact xg (h vs' c _ pm (a2.imp fun _ _ q=>q.kept' ho2 (show Value.type "list"≠Value.type "tuple" by decide) k3) (fun b o hb e=>k3 b o hb (k2 b o hb e)) hc)
 by_cases c2:vs.toArray.size<2
 ·rw[xc c2,xc c2]
  refine xa (xg ?_)
  rw[StateT.run_pure]
  refine xa (xg ?_)
  refine fin (SortSt.mk' general' (vs.toArray.zip vs.toArray) #[] 7 none) vs (.refl _) ?_ rfl ?_
  ·have:srt ds=ds:=by
    have hl:ds.length<2:=by rw[hk.length];simpa using c2
    match ds,hl with
    | [],_=>rfl
    | [d],_=>rfl
   rw[this];exact hk2
  ·show((vs.toArray.zip vs.toArray)).map (·.2)=_
   apply Array.toList_inj.mp
   simp[List.map_snd_zip]
 ·rw[xf c2,xf c2]
  refine xa (zTn hk2 (fun z=>by subst z;simp at c2) fun κ hκ=>?_)
  refine xa (xJ (zNo (Q:=fun st s'=>s'={ s with heap:=g2 }/\∃vs',vs'.Perm vs/\A2 (Ek g2 n) (srt ds) vs'/\failedOf st=none/\(arrOf st).map (·.2)=vs'.toArray) hκ hz hk2 hu fun st vs' a b c d=>⟨rfl,vs',a,b,c,d⟩) ?_ fun _ _ e=>e)
  rintro⟨⟨⟩,st⟩ s' ⟨rfl,vs',a1,a2,a3,a4⟩
  exact fin st vs' a1 a2 a3 a4
theorem zGg {r:Value}{m:Nat}{G:List D->List Value->Prop}{Q:Value->Shared->Prop}(hu:A.units+2+n<cLine)
  (hcol:∀R:List Value->Shared->Prop,(∀(h':Heap) (tk:Nat) (ds:List D) (vs:List Value),m<=h'.objs.size->(∀b o,s.heap.get? b=some o->h'.get? b=some o)->A2 (Ek h' n) ds vs->vs.length<=63->G ds vs->R vs { s with heap:=h',toks:=tk })->wpAny (model prog w) A.in1 (collect r) R E s)
  (h:∀(ds:List D) (vs vs':List Value) (c tk:Nat) (h':Heap) (L:Addr),G ds vs->vs.length<=63->vs'.Perm vs->A2 (Ek h' n) (srt ds) vs'->m<=L->(∀b o,s.heap.get? b=some o->h'.get? b=some o)->h'.get? L=some (seqObj "list" vs'.toArray c)->Q (.ref L) { s with heap:=h',toks:=tk }):
  wpAny (model prog w) A (call (.builtin "sorted") [r]) Q E s:=by
 refine Calls.call_function_entry kind_sorted plain_sorted entry_sorted (args_sorted1 _) ?_
 unfold Builtin.«sorted»
 refine xa (xg (xa (hcol _ fun h' tk ds vs sz kp hk hz hg=>?_)))
 have lz:vs.length<=sizeLine:=by rw[xZ];lia
 refine xa (wpAny_newList ?_ (by simpa using lz))
 have hoL:(h'.push (seqObj "list" vs.toArray 0)).get? h'.objs.size=some (seqObj "list" vs.toArray 0):=xw _ rfl
 have k0:∀b o,h'.get? b=some o->(h'.push (seqObj "list" vs.toArray 0)).get? b=some o:=fun b o e=>xi _ e
 refine xa (xG (xW slot_list_sort ⟨_,hoL,rfl⟩ entry_list_sort (zKa hoL (hk.imp fun _ _ q=>q.kept fun b o e _=>k0 b o e) hz (by show A.units+1+1+n<cLine;lia) fun vs' c h2 pm a2 k2 hD=>⟨_,rfl,?_⟩) (args_list_sort _)))
 exact xg ⟨_,rfl,h ds vs vs' c tk h2 _ hg hz pm a2 sz (fun b o e=>k2 b o (xt (xj (kp b o e))) (k0 b o (kp b o e))) hD⟩
end
end EK
namespace TU
open PySem TB EK TS
open TS (sObj Tab.ft TabP.ft gate adr)
open DS (D)
open Classical
section
variable {prog:Program}{w:World}{A:Around}{E:Value->Shared->Prop}{s:Shared}{dp:Nat}
noncomputable abbrev EA (h:Heap) (dp:Nat) (k:D) (a:Addr):Prop:=Ek h (dp+1) k (.ref a)
theorem unseen (hdp:dp+1<=8) {a:Addr}{ks:D}{l:List Value}{Q:Bool->Shared->Prop}(hk:EA s.heap dp ks a) (hl:∀v∈l,∃b ls,v=.ref b/\EA s.heap dp ls b) (h:Q false s):
  wpAny (model prog w) A (searchCouldBeSeen (.ref a) l) Q E s:=by
 unfold searchCouldBeSeen
 refine xa (v7 _ (fun rest r s'=>r.1=none/\s'=s/\∀v∈rest,∃b ls,v=.ref b/\EA s.heap dp ls b) _ ?_ ?_ _ _ ⟨rfl,rfl,hl⟩)
 ·rintro v rest r s' ⟨hr,rfl,al⟩
  obtain⟨b,ls,rfl,hb⟩:=al v xN
  have rest':∀v∈rest,∃b ls,v=.ref b/\EA s'.heap dp ls b:=fun u hu=>al u (xX _ hu)
  dsimp only
  split
  ·exact xg ⟨rfl,rfl,rest'⟩
  ·refine xa (zEs (dp+1) 8 hk hdp ?_)
   rw[xf (by decide)]
   refine xa (zEs (dp+1) 8 hb hdp ?_)
   rw[xf (by decide)]
   refine xa (zEu (dp+1) 8 hk hdp ?_)
   rw[xf (by decide)]
   refine xa (zEu (dp+1) 8 hb hdp ?_)
   rw[xf (by decide)]
   exact xg ⟨rfl,rfl,rest'⟩
 ·rintro⟨r1,r2⟩ s' ⟨hr,rfl,_⟩
  simp only at hr
  subst hr
  exact xg h
noncomputable def kv (κ:Addr->D) (e:Int × Value):D:=κ (adr e.2)
noncomputable def Els (dp:Nat) (κ:Addr->D) (h:Heap) (es:Array (Int × Value)):Prop:=∀e∈es.toList,∃b,e.2=.ref b/\EA h dp (κ b) b/\e.1=hD (κ b)
theorem search {κ:Addr->D}{S x:Addr}{es:Array (Int × Value)}{ep:Nat}{t:SetTable}{b:Bool}{Q:SetFound->Shared->Prop}(hdp:dp+1<=8) (hu:A.units+(dp+1)<cLine) (ho:s.heap.get? S=some (sObj es ep t)) (T:Tab t es.size b)
  (hk:EA s.heap dp (κ x) x) (he:Els dp κ s.heap es) (h1:(∃e∈es.toList,kv κ e=κ x)->Q (.there none) s)
  (h2:∀M,t.slot (adv t M (t.probeStart (hD (κ x)))).j=.empty->(∀m',m'<M->∃i,∃hi:i<es.size,t.slot (adv t m' (t.probeStart (hD (κ x)))).j=.live i/\(es[i].1≠hD (κ x)\/kv κ es[i]≠κ x))->Q (.free (adv t M (t.probeStart (hD (κ x)))).j false) s):
  ∀(f m c:Nat) (st:Option SetTable.Probe),m<f->m<10*SetTable.turns t.mask->st.getD (t.probeStart (hD (κ x)))=adv t c (t.probeStart (hD (κ x)))->
   (∀m',m'<c->∃i,∃hi:i<es.size,t.slot (adv t m' (t.probeStart (hD (κ x)))).j=.live i/\(es[i].1≠hD (κ x)\/kv κ es[i]≠κ x))->
   Far t (adv t c (t.probeStart (hD (κ x)))) m->wpAny (model prog w) A (setSearchFrom S (.ref x) (hD (κ x)) true f st) Q E s:=by
 generalize ehx:hD (κ x)=hx at h2 ⊢
 have lv:∀{j i:Nat},t.slot j=.live i->i<es.size:=fun {j i} hj=>by
  obtain⟨z,_⟩:=x4.mp (zGp T hj)
  rw[T.size]at z;exact z
 intro f
 induction f with
 | zero=>intro m c st hm;lia
 | succ f ih=>
  intro m c st hm hm2 est seen fr
  unfold setSearchFrom
  refine xa (v5 ho rfl (Tab.ft T) ?_)
  dsimp only
  rw[T.way]
  rw[xf (by decide)]
  unfold SetTable.probe
  rw[est]
  have more:∀d,(∀d',d'<d->∃i,t.slot (adv t d' (adv t c (t.probeStart hx))).j=.live i/\(((es[i]?.map (·.1)).getD 0 == hx)=false))->∀m',m'<c+d->∃i,∃hi:i<es.size,t.slot (adv t m' (t.probeStart hx)).j=.live i/\(es[i].1≠hx\/kv κ es[i]≠κ x):=fun d hd m' hm'=>by
   rcases vc m' c with z|z
   ·exact seen m' z
   ·obtain⟨d',rfl⟩:∃d',m'=c+d':=⟨m' - c,by nofun⟩
    obtain⟨i,e1,e2⟩:=hd d' (by nofun)
    rw[<- zBf]at e1
    have hi:=lv e1
    refine⟨i,hi,e1,.inl fun z=>?_⟩
    rw[x3 hi]at e2
    have:(es[i].1 == hx)=false:=e2
    rw[z]at this;simp at this
  rcases zDo T.nod _ m _ hm2 fr with⟨d,_,e,hj,hd⟩|⟨d,i,hlt,e,hj,hd,fr'⟩
  ·rw[e]
   dsimp only
   rw[<- zBf]at hj ⊢
   exact xg (h2 (c+d) hj (more d hd))
  ·rw[e]
   dsimp only
   have hi:=lv hj
   have ei:=x3 hi
   obtain⟨y,ey,hy,eyh⟩:=he es[i] (by simp)
   have e2:es[i]?=some (es[i].1,.ref y):=by rw[ei,<- ey]
   have ky:kv κ es[i]=κ y:=by unfold kv;rw[ey];rfl
   rw[e2]
   dsimp only
   refine gate (fun Q' hq=>unseen hdp hk (fun v hv=>?_) hq) ?_
   ·obtain⟨e',he',rfl⟩:=xB.mp hv
    obtain⟨b',q1,q2,_⟩:=he e' (by
     have:=Array.mem_filter.mp (uY.mp he')
     exact uY.mpr this.1)
    exact⟨b',_,q1,q2⟩
   refine xa (xG (zGw (dp+1) hy hk hu ?_))
   refine xa (v5 ho rfl (Tab.ft T) ?_)
   dsimp only
   by_cases cc:κ y=κ x
   ·rw[xo cc]
    exact xg (h1 ⟨es[i],by simp,ky.trans cc⟩)
   ·rw[xl cc]
    rw[xf (by decide)]
    have em:t.sameMemory t.moves t.mask=some true:=by unfold SetTable.sameMemory;simp
    rw[em]
    dsimp only
    rw[xc rfl,hj]
    dsimp only
    rw[e2]
    dsimp only
    refine xa (wpAny_isSame_ref_self ?_)
    rw[xc rfl]
    refine xa (xg ?_)
    dsimp only
    rw[xf (by decide)]
    refine ih (m-(d+1)) (c+(d+1)) _ (by nofun) (by nofun) (zBf t c (d+1) _).symm ?_ (by rw[zBf];exact fr')
    intro m' hm'
    rcases vc m' (c+d)with z|z
    ·exact more d hd m' z
    ·have:m'=c+d:=by nofun
     subst this
     rw[<- zBf]at hj
     exact⟨i,hi,hj,.inr (by rw[ky];exact cc)⟩
noncomputable def IsS (dp:Nat) (κ:Addr->D) (h:Heap) (S:Addr) (es:Array (Int × Value)) (b:Bool):Prop:=∃ep t,h.get? S=some (sObj es ep t)/\Tab t es.size b/\Els dp κ h es/\Chs t (es.toList.map (·.1))/\(es.toList.map (kv κ)).Nodup
noncomputable def IsW (dp:Nat) (κ:Addr->D) (h:Heap) (S:Addr) (es:Array (Int × Value)) (b:Bool):Prop:=∃ep t,h.get? S=some (sObj es ep t)/\TabW t es.size b/\Els dp κ h es/\(es.toList.map (kv κ)).Nodup
theorem IsS.wk {κ:Addr->D}{h:Heap}{S:Addr}{es:Array (Int × Value)}{b:Bool}(i:IsS dp κ h S es b):IsW dp κ h S es b:=by
 obtain⟨ep,t,ho,T,he,_,nd⟩:=i
 exact⟨ep,t,ho,T.w,he,nd⟩
theorem Els.keeps {κ:Addr->D}{h h':Heap}{S:Addr}{es es':Array (Int × Value)}{ep:Nat}{t:SetTable}(he:Els dp κ h es) (ho:h.get? S=some (sObj es' ep t)) (hs:Heap.SameBut S h h'):Els dp κ h' es:=fun e hm=>by
 obtain⟨b,e1,q,e2⟩:=he e hm
 refine⟨b,e1,q.kept fun c o ec et=>(hs.2 c fun z=>?_).trans ec,e2⟩
 subst z
 rw[ho]at ec
 cases ec
 exact absurd (show Value.type "set"=Value.type "tuple" from et) (by decide)
theorem zM6 {κ:Addr->D}{x:Addr}{es:Array (Int × Value)}{t:SetTable}{b:Bool}{h:Heap}{M:Nat}(T:Tab t es.size b) (he:Els dp κ h es) (C:Chs t (es.toList.map (·.1))) (hM:t.slot (adv t M (t.probeStart (hD (κ x)))).j=.empty)
  (seen:∀m',m'<M->∃i,∃hi:i<es.size,t.slot (adv t m' (t.probeStart (hD (κ x)))).j=.live i/\(es[i].1≠hD (κ x)\/kv κ es[i]≠κ x)):κ x ∉ es.toList.map (kv κ):=by
 intro hm
 obtain⟨e,hem,ek⟩:=xB.mp hm
 obtain⟨i,hi,rfl⟩:=vV.mp hem
 have hi':i<es.size:=by simpa using hi
 obtain⟨y,ey,_,eh⟩:=he _ hem
 have ky:κ y=κ x:=by
  have:kv κ es.toList[i]=κ y:=by unfold kv;rw[ey];rfl
  rw[<- this,ek]
 rw[ky]at eh
 have hp:i<t.place.size:=by rw[T.size];exact hi'
 obtain⟨m,em,al⟩:=C (t.place[i],es.toList[i].1) (vV.mpr ⟨i,by have:=Nat.lt_min.mpr ⟨hp,hi'⟩;simpa using this,by simp⟩)
 dsimp only at em al
 rw[eh]at em al
 rcases Nat.lt_trichotomy m M with z|z|z
 ·obtain⟨i',hi2,q1,q2⟩:=seen m z
  rw[em]at q1
  have q3:=zGp T q1
  obtain⟨z3,e3⟩:=x4.mp q3
  have:=zVg T.up (by simpa using z3) (by simpa using hp) (by simpa using e3)
  subst this
  rcases q2 with q2|q2
  ·exact q2 (by simpa using eh)
  ·exact q2 (by simpa using ek)
 ·subst z
  rw[em]at hM
  exact(zFs T _).mp hM (by simp)
 ·exact(zFs T _).mp hM (al M z)
theorem zNd {κ:Addr->D}{S x:Addr}{es:Array (Int × Value)}{b:Bool}{Q:Bool->Shared->Prop}(hdp:dp+1<=8) (hu:A.units+(dp+1)<cLine) (hS:IsS dp κ s.heap S es b) (hk:EA s.heap dp (κ x) x) (hn:es.size<1200)
  (h1:(∃e∈es.toList,kv κ e=κ x)->Q false s) (h2:∀h' es',Heap.SameBut S s.heap h'->IsS dp κ h' S es' b->es'.toList.Perm ((hD (κ x),.ref x)::es.toList)->Q true { s with heap:=h' }):
  ∀f,wpAny (model prog w) A (setAddHashedIn S (.ref x) (hD (κ x)) (f+1)) Q E s:=by
 intro f
 obtain⟨ep,t,ho,T,he,C,nd⟩:=hS
 unfold setAddHashedIn
 refine xa (v5 ho rfl (Tab.ft T) ?_)
 dsimp only
 have eb:byScan (.ref x) es=false:=by unfold byScan;rfl
 rw[eb]
 rw[xf (by decide)]
 obtain⟨m,hm,fr⟩:=T.start (hD (κ x))
 refine xa (search hdp hu ho T hk he (fun q=>?_) (fun M hM seen=>?_) 100000 m 0 none (vF hm T.turns) hm rfl (fun m' h=>by nofun) fr)
 ·exact xg (h1 q)
 ·have fk:=zM6 T he C hM seen
  have alM:∀m',m'<M->(adv t m' (t.probeStart (hD (κ x)))).j∈t.place.toList:=fun m' h=>by
   obtain⟨i,_,q,_⟩:=seen m' h
   exact zTj T q
  obtain⟨C1,ep2⟩:=zSa T (by simp) C hM rfl alM
  have TP:=T.put hM
  generalize (adv t M (t.probeStart (hD (κ x)))).j=j at TP C1 ep2 ⊢
  dsimp only
  refine xa (v5 ho rfl (Tab.ft T) ?_)
  dsimp only
  generalize ePT:t.put j=PT at TP C1 ep2
  obtain⟨t1,p⟩:=PT
  dsimp only at TP C1 ep2 ⊢
  rw[TP.plain]
  rw[xc rfl]
  refine xa (zId (dp+1) 8 hk hdp ?_)
  rw[xc rfl]
  generalize ehx:hD (κ x)=hx at C1 h2 ⊢
  have pm:=ins_perm es p (hx,Value.ref x)
  have sz:=zI5 es p (hx,Value.ref x)
  have C2:Chs t1 ((SetTable.insertAt es p (hx,Value.ref x)).toList.map (·.1)):=by
   rw[zCq,vk,xx,List.map_take,List.map_drop]
   exact C1
  generalize SetTable.insertAt es p (hx,Value.ref x)=es1 at pm sz C2 ⊢
  have nd1:(es1.toList.map (kv κ)).Nodup:=by
   refine(pm.map (kv κ)).nodup_iff.mpr ?_
   rw[xx]
   exact vo.mpr ⟨fk,nd⟩
  refine xa (wpAny_storeSet_of ho rfl ?_ (by rw[sz,xZ];lia))
  have hg:=vH (Obj.putSet es1 t1) ho rfl
  have sb:=uj s.heap S (Obj.putSet es1 t1)
  have he1:Els dp κ (s.heap.update S (Obj.putSet es1 t1)) es1:=fun e hm=>by
   rcases xk.mp (pm.mem_iff.mp hm)with rfl|hm
   ·exact Els.keeps (es:=#[(hx,Value.ref x)]) (fun e hm=>by
     have:e=(hx,Value.ref x):=by simpa using hm
     subst this;exact⟨x,rfl,hk,ehx.symm⟩) ho sb _ (by simp)
   ·exact Els.keeps he ho sb e hm
  rw[<- sz]at TP
  by_cases c:t1.tooFull=true
  ·rw[xc (by rw[c];rfl)]
   unfold setRelay
   refine xa (xa (v5 hg rfl (TabP.ft TP) ?_))
   dsimp only
   obtain⟨hl,t2,order,er,T2,po,C3⟩:=zKn TP c (by nofun) (es1.map (·.1)) (by simp)
   rw[<- sz]
   rw[xf (by simpa using hl)]
   rw[er]
   have pe:(order.filterMap (es1[·]?)).toList.Perm es1.toList:=by
    rw[Array.toList_filterMap]
    refine(po.filterMap _).trans ?_
    have:=filterMap_getElem?_range es1
    rw[this]
   have zz:(order.filterMap (es1[·]?)).size=es1.size:=by rw[<- uq,pe.length_eq,uq]
   have C4:Chs t2 ((order.filterMap (es1[·]?)).toList.map (·.1)):=by
    have e5:(order.filterMap (es1[·]?)).toList.map (·.1)=order.toList.map fun k=>(es1.map (·.1)).toList.getD k 0:=by
     rw[Array.toList_filterMap]
     have al:∀k∈order.toList,k<es1.size:=fun k hk=>vy.mp (po.mem_iff.mp hk)
     clear C3 po er pe zz
     generalize order.toList=l at al
     induction l with
     | nil=>rfl
     | cons k l ih=>
      have hk:=al k (.head _)
      rw[vP,x3 hk]
      simp only[xx]
      rw[ih fun k hk=>al k (.tail _ hk)]
      congr 1
      simp[hk]
    rw[e5];exact C3
   refine xa ?_
   show wpAny _ _ (if((order.filterMap (es1[·]?)).size != es1.size)=true then _ else pure (order.filterMap (es1[·]?),t2)) _ _ _
   rw[xf (by simp[zz])]
   refine xg ?_
   dsimp only
   generalize order.filterMap (es1[·]?)=es2 at pe zz C4 ⊢
   refine wpAny_storeSet_of hg rfl ?_ (by rw[zz,sz,xZ];lia)
   have hg2:=vH (Obj.putSet es2 t2) hg rfl
   have sb2:=uj (s.heap.update S (Obj.putSet es1 t1)) S (Obj.putSet es2 t2)
   refine xg (h2 _ es2 (sb.trans sb2) ⟨_,_,hg2,by rw[zz];exact T2,?_,C4,(pe.map (kv κ)).nodup_iff.mpr nd1⟩ (pe.trans pm))
   exact Els.keeps (fun e hm=>he1 e (pe.mem_iff.mp hm)) hg sb2
  ·rw[xf (by simpa using c)]
   exact xg (h2 _ es1 sb ⟨_,_,hg,TP.tab (by simpa using c),he1,C2,nd1⟩ pm)
theorem add {κ:Addr->D}{S x:Addr}{es:Array (Int × Value)}{b:Bool}{Q:Bool->Shared->Prop}(hdp:dp+1<=8) (hu:A.units+(dp+1)<cLine) (hS:IsS dp κ s.heap S es b) (hk:EA s.heap dp (κ x) x) (hn:es.size<1200)
  (h1:∀tk,s.toks<=tk->(∃e∈es.toList,kv κ e=κ x)->Q false { s with toks:=tk }) (h2:∀h' es' tk hx,s.toks<=tk->Heap.SameBut S s.heap h'->IsS dp κ h' S es' b->es'.toList.Perm ((hx,.ref x)::es.toList)->Q true { s with heap:=h',toks:=tk }):wpAny (model prog w) A (setAdd S (.ref x)) Q E s:=by
 unfold setAdd
 refine xG (xa (zMf (dp+1) hk hu fun tk htk=>?_))
 unfold setAddHashed
 refine xG ?_
 exact zNd (s:={ s with toks:=tk }) hdp hu hS hk hn (fun q=>h1 _ htk q) (fun h' es' sb i p=>h2 h' es' _ _ htk sb i p) 99999
end
end TU
namespace TU
open PySem TB EK TS
open TS (sObj Tab.ft TabP.ft gate adr nObj zDf zHo)
open DS (D)
open Classical
section
variable {prog:Program}{w:World}{A:Around}{R:Result->Shared->Prop}{I:Addr}{fp wr:List Addr}{G:Array GenState->Array GenState->Prop}{n:Nat}{P:Nat->Value->Prop}{St:Nat->Shared->Prop}{dp:Nat}
noncomputable def Met (n:Nat) (P:Nat->Value->Prop) (es:Array (Int × Value)):Prop:=∀e∈es.toList,∃j,j<n/\P j e.2
theorem IsS.moved {κ:Addr->D}{h h':Heap}{S:Addr}{es:Array (Int × Value)}{b:Bool}{bad:List Addr}(i:IsS dp κ h S es b) (hS:S ∉ bad) (k:∀c o,c ∉ bad->h.get? c=some o->h'.get? c=some o) (hb:∀c∈bad,∀o,h.get? c=some o->o.cls≠.type "tuple"):IsS dp κ h' S es b:=by
 obtain⟨ep,t,ho,T,he,C,nd⟩:=i
 refine⟨ep,t,k _ _ hS ho,T,fun e hm=>?_,C,nd⟩
 obtain⟨c,e1,q,e2⟩:=he e hm
 exact⟨c,e1,q.kept fun b o eb et=>k _ _ (fun z=>hb b z o eb et) eb,e2⟩
noncomputable def Cov (κ:Addr->D) (n:Nat) (P:Nat->Value->Prop) (es:Array (Int × Value)):Prop:=∀j v,j<n->P j v->∃e∈es.toList,kv κ e=κ (adr v)
theorem loop {κ:Addr->D}(W:WalksS prog w A.in1 I fp wr G n P St) (S:Addr) (hSf:S ∉ fp) (hdp:dp+1<=8) (hu:A.in1.units+(dp+1)<cLine) (h0:Heap) (hP:∀i v,P i v->∃a,v=.ref a/\EA h0 dp (κ a) a) (hbad:∀c∈S::wr,∀o,h0.get? c=some o->o.cls≠.type "tuple") (hPf:∀i v v',P i v->P i v'->v=v') (hn:n<=1199) {led:Bool}
  (hwr:∀i s,St i s->∀c∈wr,∀o,s.heap.get? c=some o->o.cls≠.type "tuple"):
  ∀(k i:Nat) (s:Shared) (es:Array (Int × Value)),n-i=k->i<=n->St i s->IsS dp κ s.heap S es led->es.size<=i->Met n P es->Cov κ i P es->(∀c o,c ∉ S::wr->h0.get? c=some o->s.heap.get? c=some o)->
   (∀s' es',Moved (S::wr) G s s'->IsS dp κ s'.heap S es' led->es'.size<=n->Met n P es'->Cov κ n P es'->R (.ok (.ret .none)) s')->
   codeAny (model prog w) A (.builtin "set.update.loop" ⟨[.ref S,.ref I],[]⟩) R s:=by
 have hSw:S ∉ wr:=fun h=>hSf (W.sub _ h)
 have sub:∀b∈wr,b∈S::wr:=fun b hb=>.tail _ hb
 intro k
 induction k with
 | zero=>
  intro i s es hk hi hst hS hz hM hC hkp hR
  obtain rfl:i=n:=by nofun
  refine codeAny_builtin PyProof.Rows.F.entry_set_update_loop ?_
  rw[Around.under_plainId yf _]
  show wpAny _ A.in1 (pyNext (.ref I) >>= _) _ _ s
  refine xa (W.done s _ _ hst fun s' hm=>?_)
  show wpAny _ A.in1 (ret Value.none) _ _ s'
  exact xg (hR s' es (hm.mono sub) (IsS.moved hS hSw hm.heap (hwr _ _ hst)) hz hM hC)
 | succ k ih=>
  intro i s es hk hi hst hS hz hM hC hkp hR
  have hlt:i<n:=by nofun
  refine codeAny_builtin PyProof.Rows.F.entry_set_update_loop ?_
  rw[Around.under_plainId yf _]
  show wpAny _ A.in1 (pyNext (.ref I) >>= _) _ _ s
  refine xa (W.item i s _ _ hlt hst fun v s' hp hst' hm=>?_)
  obtain⟨a,rfl,hq⟩:=hP i v hp
  have hk':=hq.kept fun b o eb et=>by
   have hb:b ∉ S::wr:=fun z=>hbad b z o eb et
   exact hm.heap b o (fun z=>hb (sub b z)) (hkp b o hb eb)
  have hS':=IsS.moved hS hSw hm.heap (hwr _ _ hst)
  show wpAny _ A.in1 (holding [Value.ref a] (setAdd S (.ref a)) >>= _) _ _ s'
  refine xa (xG (add hdp hu hS' hk' (by nofun) (fun tk htk there=>?_) (fun h' es' tk hx htk sb i' pm=>?_)))
  ·refine xg ⟨plainId_quiet yf _,ih (i+1) { s' with toks:=tk } es (by nofun) hlt (W.frame _ s' s'.heap tk hst' htk fun _ _ _ e=>e) hS' (by nofun) hM (fun j v' hj hv'=>?_) (fun c o hc e=>hm.heap c o (fun z=>hc (sub c z)) (hkp c o hc e)) fun s2 es2 m2 i2 z2 w2 c2=>?_⟩
   ·rcases vc j i with z|z
    ·exact hC j v' z hv'
    ·have:j=i:=by nofun
     subst this
     rw[hPf _ _ _ hv' hp]
     exact there
   ·exact hR s2 es2 (Moved.trans W.gtrans ((hm.mono sub).then_heap htk fun _ _ _ e=>e) m2) i2 z2 w2 c2
  ·have hsz:es'.size=es.size+1:=by have:=pm.length_eq;simpa using this
   refine xg ⟨plainId_quiet yf _,ih (i+1) { s' with heap:=h',toks:=tk } es' (by nofun) hlt (W.frame _ s' h' tk hst' htk fun c hc o e=>?_) i' (by nofun) (fun e he=>?_) (fun j v' hj hv'=>?_) (fun c o hc e=>?_) fun s2 es2 m2 i2 z2 w2 c2=>?_⟩
   ·rw[sb.2 c fun z=>hSf (z ▸ hc)];exact e
   ·rcases xk.mp (pm.mem_iff.mp he)with rfl|he
    ·exact⟨i,hlt,hp⟩
    ·exact hM e he
   ·rcases vc j i with z|z
    ·obtain⟨e,he,ek⟩:=hC j v' z hv'
     exact⟨e,pm.mem_iff.mpr (xX _ he),ek⟩
    ·have:j=i:=by nofun
     subst this
     rw[hPf _ _ _ hv' hp]
     exact⟨(hx,.ref a),pm.mem_iff.mpr xN,rfl⟩
   ·rw[sb.2 c fun z=>hc (z ▸ xN)]
    exact hm.heap c o (fun z=>hc (sub c z)) (hkp c o hc e)
   ·refine hR s2 es2 (Moved.trans W.gtrans ((hm.mono sub).then_heap htk fun c o hc e=>?_) m2) i2 z2 w2 c2
    rw[sb.2 c fun z=>hc (z ▸ xN)];exact e
end
section
variable {prog:Program}{w:World}{A:Around}{E:Value->Shared->Prop}{s:Shared}{dp:Nat}
theorem zNt {κ:Addr->D}{l:Addr}{items:Array Value}{Q:Value->Shared->Prop}(hh:A.handled=none) (hl:s.heap.IsList l items) (hdp:dp+1<=8) (hu:A.units+20<cLine) (hn:items.size<=1199)
  (hk:∀v∈items.toList,∃a,v=.ref a/\EA s.heap dp (κ a) a)
  (h:∀(h':Heap) (tk:Nat) (es:Array (Int × Value)),IsS dp κ h' s.heap.objs.size es (zDf w)->es.size<=items.size->(∀e∈es.toList,e.2∈items.toList)->(∀v∈items.toList,∃e∈es.toList,kv κ e=κ (adr v))->
   (∀b o,b<s.heap.objs.size->s.heap.get? b=some o->h'.get? b=some o)->Q (.ref s.heap.objs.size) { s with heap:=h',toks:=tk }):
  wpAny (model prog w) A (call (.type "set") [.ref l]) Q E s:=by
 obtain⟨cc,tl,hmro⟩:=v9.mro;have hmade:=v9.made;have hsub:=v9.sub
 refine wpAny_call (codeAny_of_tree (?_))
 refine xg ⟨Code.quiet_builtin _ (by decide +kernel),codeAny_builtin F.entry_type_call ?_⟩;rw[Around.under_plain (weight_type_call_type "set" [.ref l] []) rfl]
 have h1:=v9.notType;have h2:=v9.canCreate;have hct:=F.typeCall_set_1 (.ref l)
 repeat (any_goals (first|assumption|wp_step))
 refine vR (zHo (.ref l) (E:=E) (Q₁:=fun obj s₁=>obj=.ref s.heap.objs.size/\s₁={ s with heap:=s.heap.push (nObj w) }) ⟨rfl,rfl⟩) fun r s₁ hr=>?_
 cases r with
 | error e=>exact hr
 | ok fl=>
  cases fl with
  | ret obj=>
   obtain⟨rfl,rfl⟩:=hr
   have hS:(s.heap.push (nObj w)).get? s.heap.objs.size=some (nObj w):=xw _ rfl
   have hT:Shared.TypeIs { s with heap:=s.heap.push (nObj w) } (.ref s.heap.objs.size) "set":=⟨_,hS,rfl⟩
   have hli:=v9.init.lookup;have hbi:=v9.init.bind (.ref s.heap.objs.size)
   repeat (any_goals (first|assumption|wp_step))
   refine vR (codeAny_call_builtin (R:=wants (fun r s₂=>r=.none/\∃h' tk es,s₂={ s with heap:=h',toks:=tk }/\IsS dp κ h' s.heap.objs.size es (zDf w)/\es.size<=items.size/\(∀e∈es.toList,e.2∈items.toList)/\(∀v∈items.toList,∃e∈es.toList,kv κ e=κ (adr v)) /\
     (∀b o,b<s.heap.objs.size->s.heap.get? b=some o->h'.get? b=some o)) E) v9.init.plain F.entry_set_init (check_set_init_1 hT ?_)) fun r₂ s₂ hr₂=>?_
   ·have hlt:l<s.heap.objs.size:=by obtain⟨o,ho,_⟩:=hl;exact xj ho
    have hl1:(s.heap.push (nObj w)).IsList l items:=hl.push _
    have hTl:Shared.TypeIs { s with heap:=s.heap.push (nObj w) } (.ref l) "list":=by obtain⟨o,ho,hc,_⟩:=hl1;exact⟨o,ho,hc⟩
    have q1:=F.sub_list_set;have q2:=F.sub_list_frozenset;have q3:(Value.type "list" == Value.type "dict")=false:=by decide
    unfold Builtin.«set.__init__» noKeywords Builtin.Frozenset.updateFrom
    generalize hPI:pyIter=PI
    wp_walk
    subst hPI
    refine uO hl1 (xa (wpAny_runValue ?_))
    have hs2:(s.heap.push (nObj w)).objs.size=s.heap.objs.size+1:=by rw[vi]
    have hneI:l≠(s.heap.push (nObj w)).objs.size:=by rw[hs2];exact xt (uL hlt)
    have hh3:A.in1.in1.in1.handled=none:=by simp[hh]
    have key:∀(i:Nat) (v:Value),items[i]?=some v->∃a,v=.ref a/\EA s.heap dp (κ a) a:=fun i v hv=>hk v (by obtain⟨z,e⟩:=x4.mp hv;rw[<- e];simp)
    have bad:∀c∈s.heap.objs.size::[(s.heap.push (nObj w)).objs.size],∀o,s.heap.get? c=some o->o.cls≠.type "tuple":=fun c hc o e=>by
     have:=xj e
     rw[hs2]at hc
     rcases xk.mp hc with rfl|hc
     ·exact absurd this (x5 _)
     ·rw[xV.mp hc]at this
      exact absurd this (Nat.not_lt.mpr (Nat.le_succ _))
    have kp:∀c o,s.heap.get? c=some o->((s.heap.push (nObj w)).push { cls:=.type "list_iterator",data:=.fields #[.ref l,.int 0 0] }).get? c=some o:=fun c o e=>xi _ (xi _ e)
    refine loop (h0:=s.heap) ((Walks.list hh3 _ l hneI items).toS) s.heap.objs.size ?nA hdp (by show A.units+1+1+1+(dp+1)<cLine;lia) key bad (fun i v v' q q'=>xD (q.symm.trans q')) hn ?nB (items.size-0) 0 _ #[] (by nofun) (x8 _) ⟨⟨_,xw _ rfl,rfl,rfl⟩,hl1.push _⟩
     ⟨0,_,xi _ hS,zM5 _,(fun e he=>by cases he),(fun q hq=>by cases hq),List.nodup_nil⟩ (x8 _) (fun e he=>by cases he) (fun j v hj=>by nofun) (fun c o _ e=>kp c o e) ?nD
    case nA=>
     rw[hs2];simp;exact vz hlt
    case nB=>
     rintro i s' ⟨⟨o,ho,hc,_⟩,_⟩ c hcm o' ho'
     have:c=(s.heap.push (nObj w)).objs.size:=by simpa using hcm
     subst this
     rw[ho]at ho';cases ho';rw[hc];decide
    case nD=>
     intro s' es' mv i' z' m' c'
     obtain⟨h',g',d',tk',os'⟩:=s'
     have eg:=mv.gens
     have ed:=mv.drawn
     have eo:=mv.os
     subst eg ed eo
     refine xg (xg ⟨rfl,h',tk',es',rfl,i',z',fun e he=>?_,fun v hv=>?_,fun b o hb e=>?_⟩)
     ·obtain⟨j,hj,hp⟩:=m' e he
      obtain⟨z,e2⟩:=x4.mp hp
      rw[<- e2];simp
     ·obtain⟨j,hj,e2⟩:=vV.mp hv
      exact c' j v (by simpa using hj) (by rw[<- e2];simp)
     ·refine mv.heap b o ?_ (kp b o e)
      rw[hs2];simp only[xk,vI,or_false,not_or]
      exact⟨xt hb,xt (uL hb)⟩
   ·cases r₂ with
    | error e=>exact hr₂
    | ok fl₂=>
     cases fl₂ with
     | ret r=>
      obtain⟨rfl,h',tk,es,rfl,i1,i2,i3,i4,i5⟩:=hr₂
      repeat (any_goals (first|assumption|wp_step))
      exact h _ _ _ i1 i2 i3 i4 i5
     | _=>exact hr₂.elim
  | _=>exact hr.elim
end
end TU
namespace DS
open PySem (Str)
noncomputable section
open Classical
noncomputable def setable (l:List D):Prop:=l.length<=63/\∃n,n+1<=6/\∀x∈l,lv (n+1) x
noncomputable def ltN (S:Store) (x y:D):Option D:=match x,y with
 | .int a,.int b=>some (.bl (decide (a<b)))
 | .str a,.str b=>some (.bl (decide (a.cps.toList<b.cps.toList)))
 | .tup l,.tup m=>if ∃n,n+1<=6/\lv (n+1) (.tup l)/\lv (n+1) (.tup m)then some (.bl (blt (.tup l) (.tup m)))else none
 | _,_=>none
noncomputable def intB (_:Store):List D->Option D
 | [.int i]=>some (.int i)
 | [.bl b]=>some (.int (if b then 1 else 0))
 | _=>none
end
end DS
namespace L2
open PySem PySem.Spec PyProof.Rows EK
open DS (D Store Exn Rs SR lv srt)
section
variable {X:Cx}{K:PySem.W.Frag}{E:XE}{J:Js}{S:Store}{H:Hp}{d d1 d2:D}{v:V}{pins:List (Addr × Obj)}{σ:St}{s:Shared}
theorem zEt (I:Inv X pins σ H s):∀(n:Nat) {d:D}{v:V}{u:Value},lv n d->Rep K J H d v->RelV v u->Ek s.heap n d u
 | 0,_,v,u,⟨i,e⟩,r,q=>by
  subst e
  obtain rfl:v=.int i:=r
  obtain⟨t,rfl⟩:=q
  exact⟨i,t,rfl,rfl⟩
 | n+1,_,v,u,⟨l,e,hl⟩,r,q=>by
  subst e
  obtain⟨a,xs,rfl,t,rl⟩:=r
  cases q
  obtain⟨_,its,rv,o,ho,hc,k,hd⟩:=(I.hok _ _ t.1)
  refine⟨l,a,o,_,k,rfl,rfl,ho,hc,hd,?_⟩
  have go:∀(l:List D) (xs:List V) (its:List Value),(∀x∈l,lv n x)->RepL K J H l xs->Vals xs its->A2 (Ek s.heap n) l its:=by
   intro l
   induction l with
   | nil=>intro xs its _ rl rv;obtain rfl:xs=[]:=rl;cases rv;exact .nil
   | cons d l ih=>
    intro xs its hl rl rv
    obtain⟨x,r,rfl,h,rl⟩:=rl
    cases rv with
    | cons q rv=>exact .cons (zEt I n (hl d (.head _)) h q) (ih _ _ (fun y hy=>hl y (.tail _ hy)) rl rv)
  simpa using go l xs its hl rl rv
theorem zIc (I:Inv X pins σ H s) {n:Nat}:∀{l:List D}{xs:List V}{us:List Value},(∀x∈l,lv n x)->RepL K J H l xs->Vals xs us->A2 (Ek s.heap n) l us
 | [],xs,us,_,rl,rv=>by obtain rfl:xs=[]:=rl;cases rv;exact .nil
 | d::l,_,_,hl,⟨x,r,e,h,rl⟩,rv=>by
  subst e
  cases rv with
  | cons q rv=>exact .cons (zEt I n (hl d (.head _)) h q) (zIc I (fun y hy=>hl y (.tail _ hy)) rl rv)
theorem zS3 {l:List D}{xs:List V}{us:List Value}(rl:RepL K J H l xs) (rv:Vals xs us):∀u∈us,∃d x,d∈l/\Rep K J H d x/\RelV x u:=by
 induction l generalizing xs us with
 | nil=>obtain rfl:xs=[]:=rl;cases rv;intro u hu;cases hu
 | cons d l ih=>
  obtain⟨x,r,rfl,h,rl⟩:=rl
  cases rv with
  | cons q rv=>
   intro u hu
   rcases xk.mp hu with rfl|hu
   ·exact⟨d,x,.head _,h,q⟩
   ·obtain⟨d',x',m,r1,r2⟩:=ih rl rv u hu
    exact⟨d',x',.tail _ m,r1,r2⟩
end
end L2
namespace L2
open PySem PySem.Spec PyProof.Rows EK TU
open TS (sObj zDf adr ordW zC3 zB9 zGf Tab.ft)
open DS (D Store Exn Rs SR lv srt dedup)
section
variable {X:Cx}{K:PySem.W.Frag}{E:XE}{J:Js}{S:Store}{H:Hp}{d d1 d2:D}{v:V}{pins:List (Addr × Obj)}{σ:St}{s:Shared}
structure SGood (K:PySem.W.Frag) (J:Js) (H:Hp) (κ:Addr->D) (es:Array (Int × Value)) (l:List D):Prop where
 mem:∀d,d∈es.toList.map (kv κ) <-> d∈l
 rep:∀e∈es.toList,∃x,Rep K J H (kv κ e) x/\RelV x e.2
theorem zUy {prog:Program}{w:World}{A:Around}{EE:Value->Shared->Prop}{dp:Nat}{κ:Addr->D}{T:Addr}{es:Array (Int × Value)}{R:List Value->Shared->Prop}(hh:A.handled=none) (hS:IsW dp κ s.heap T es (zDf w)) (hz:es.size<=sizeLine)
  (h:∀(h':Heap) (tk:Nat) (vs:List Value),(∀b o,s.heap.get? b=some o->h'.get? b=some o)->vs.Perm (es.toList.map (·.2))->A2 (Ek h' (dp+1)) (vs.map fun v=>κ (adr v)) vs->R vs { s with heap:=h',toks:=tk }):wpAny (model prog w) A (collect (.ref T)) R EE s:=by
 obtain⟨ep,t,ho,Tb,he,nd⟩:=hS
 refine PySem.W.kdu_collect (zGf Tb) hh ho hz fun h' tk acc kp it=>?_
 have ea:acc.toList=((ordW w T ep es).map (·.2)).toList:=by
  refine List.ext_getElem? fun i=>?_
  rcases vc i acc.size with z|z
  ·have e1:=it.2 i acc[i] (x3 z)
   rw[uH,x3 z,uH,e1]
  ·rw[vC (by simpa using z),vC (by simp[zB9];rw[<- it.1];exact z)]
 have pm:acc.toList.Perm (es.toList.map (·.2)):=by rw[ea,Array.toList_map];exact(zC3 w T ep es).map _
 refine h h' tk acc.toList kp pm ?_
 have al:∀v∈acc.toList,∃b,v=.ref b/\EA s.heap dp (κ b) b:=fun v hv=>by
  obtain⟨e,hm,rfl⟩:=xB.mp (pm.mem_iff.mp hv)
  obtain⟨b,e1,q,_⟩:=he e hm
  exact⟨b,e1,q⟩
 generalize acc.toList=vs at al
 clear pm ea
 induction vs with
 | nil=>exact .nil
 | cons v vs ih=>
  obtain⟨b,rfl,q⟩:=al v (.head _)
  exact .cons (Ek.kept q fun b o e _=>kp b o e) (ih fun u hu=>al u (.tail _ hu))
theorem zRp {A:Around}{EE:Value->Shared->Prop}{dp:Nat}{κ:Addr->D}{T:Addr}{es:Array (Int × Value)}{l:List D}{Q:VK}{s1:Shared}(I:Inv X pins σ H s1) (hh:A.handled=none) (hu:A.units+20<cLine) (hS:IsW dp κ s.heap T es (zDf X.w)) (hdp:dp+1<=6)
  (k1:∀b o,s1.heap.get? b=some o->s.heap.get? b=some o) (e1:s={ s1 with heap:=s.heap,toks:=s.toks }) (hT:s1.heap.objs.size<=T) (hz:es.size<=63) (g:SGood K J H κ es l) (hl:∀x∈l,lv (dp+1) x)
  (h:∀(L:Addr) (zs:List V),H L=none->RepL K J H (srt (dedup l)) zs->Q (.ref L) (upd H L (.lst zs))):wpAny (model X.prog X.w) A (call (.builtin "sorted") [.ref T]) (EP X pins σ Q) EE s:=by
 have nd:=hS
 obtain⟨_,_,hoT,_,he,nd⟩:=nd
 refine EK.zGg (G:=fun ds vs=>vs.Perm (es.toList.map (·.2))/\ds=vs.map fun v=>κ (adr v)) (by nofun) (fun R hR=>zUy hh hS (by rw[xZ];lia) fun h' tk vs kp pm a2=>hR h' tk _ vs (xj (kp T _ hoT)) kp a2 (by rw[pm.length_eq];simpa using hz) ⟨pm,rfl⟩) fun ds vs vs' c tk h' L hg hz2 pm a2 hL kp hD=>?_
 obtain⟨pv,rfl⟩:=hg
 have pd:(vs.map fun v=>κ (adr v)).Perm (dedup l):=by
  have p1:(vs.map fun v=>κ (adr v)).Perm (es.toList.map (kv κ)):=by
   have:=pv.map fun v=>κ (adr v)
   rw[vd]at this
   exact this
  refine p1.trans (DS.zTd nd DS.zCr fun x=>?_)
  rw[g.mem,DS.mem_dedup]
 have es1:srt (vs.map fun v=>κ (adr v))=srt (dedup l):=by
  have lv1:∀y∈vs.map (fun v=>κ (adr v)),lv (dp+1) y:=fun y hy=>hl y (DS.mem_dedup.mp (pd.mem_iff.mp hy))
  exact DS.zJy (fun y hy=>lv1 y ((DS.zBo _).mem_iff.mp hy)) ((DS.zBo _).trans pd) (DS.zHm lv1)
 rw[es1]at a2
 have src:∀u∈vs',∃d x,Rep K J H d x/\RelV x u/\Ek h' (dp+1) d u:=fun u hm=>by
  obtain⟨e,he',rfl⟩:=xB.mp (pv.mem_iff.mp (pm.mem_iff.mp hm))
  obtain⟨x,rx,rq⟩:=g.rep e he'
  obtain⟨b,eb,q,_⟩:=he e he'
  refine⟨kv κ e,x,rx,rq,?_⟩
  unfold kv
  rw[eb]
  exact q.kept fun b o e _=>kp b o e
 have bk:∀{m:List D}{vs:List Value},A2 (Ek h' (dp+1)) m vs->(∀u∈vs,u∈vs')->∃ys,RepL K J H m ys/\Vals ys vs:=by
  intro m vs a2
  induction a2 with
  | nil=>exact fun _=>⟨[],rfl,.nil⟩
  | @cons d u m vs q _ ih=>
   intro hm
   obtain⟨ys,r1,r2⟩:=ih fun u hu=>hm u (.tail _ hu)
   obtain⟨d',x,rx,rq,q'⟩:=src u (hm u (.head _))
   have e:=q'.inj q
   subst e
   exact⟨x::ys,⟨x,ys,rfl,rx,r1⟩,.cons rq r2⟩
 obtain⟨zs,r1,r2⟩:=bk a2 fun u hu=>hu
 have len:zs.length<=sizeLine:=by rw[Vals.length r2,pm.length_eq,pv.length_eq,xZ];simp;lia
 have hL':=xp hT (Nat.le_of_succ_le hL)
 have I':=I.laid (t':=tk) (fun b o e=>kp b o (k1 b o e)) hL' (show ObjOk X.prog X.w _ h' _ (.lst zs)from⟨len,_,c,r2,hD⟩)
 rw[e1]
 exact⟨.ref L,_,I',rfl,h L zs (I.hok.fresh hL') r1⟩
end
end L2
namespace L2
open PySem PySem.Spec PyProof.Rows EK
open DS (D Store Exn Rs SR lv srt dedup)
section
variable {X:Cx}{K:PySem.W.Frag}{E:XE}{J:Js}{S:Store}{H:Hp}{d d1 d2:D}{v:V}{pins:List (Addr × Obj)}{σ:St}{s:Shared}
theorem zCc (hu:X.A.units+64<cLine):OpR X (compareOp .Lt) (r2Of K DS.ltN):=by
 intro pins s σ H x y a b Q I rx ry hq27
 obtain⟨J,S,d1,d2,d,ha,r1,r2,e,k⟩:=hq27
 unfold DS.ltN at e
 split at e
 ·cases e
  obtain rfl:=r1
  obtain rfl:=r2
  exact yAf pins s σ H _ _ a b Q I rx ry ⟨_,_,rfl,rfl,k _ H ha .refl rfl⟩
 ·cases e
  obtain rfl:=r1
  obtain rfl:=r2
  exact zLb pins s σ H _ _ a b Q I rx ry ⟨_,_,rfl,rfl,k _ H ha .refl rfl⟩
 ·split at e
  ·rename_i hs
   cases e
   obtain⟨n,hn,h1,h2⟩:=hs
   have q1:=zEt I (n+1) h1 r1 rx
   have q2:=zEt I (n+1) h2 r2 ry
   exact(zPi (n+1) q1 q2 (by nofun) ⟨.bl (DS.blt (.tup _) (.tup _)),H,I,rfl,k _ H ha .refl rfl⟩:wpAny (model X.prog X.w) X.A (richCompare .Lt a b) (EP X pins σ Q) X.xe s)
  ·cases e
 ·cases e
theorem zN5:zAu X (.type "int") (cOf K DS.intB):=by
 intro pins s σ H xs us Q I r hq28
 obtain⟨J,S,ds,d,ha,rl,e,k⟩:=hq28
 unfold DS.intB at e
 split at e
 ·cases e
  obtain⟨x,rfl,rx⟩:=zBa (ds:=[]) rl
  obtain rfl:=rx
  exact zFz pins s σ H _ us Q I r (.inl ⟨_,rfl,k _ H ha .refl rfl⟩)
 ·cases e
  obtain⟨x,rfl,rx⟩:=zBa (ds:=[]) rl
  obtain rfl:=rx
  exact zFz pins s σ H _ us Q I r (.inr ⟨_,rfl,k _ H ha .refl rfl⟩)
 ·cases e
theorem zJ1 (xs:List Value) (i:Nat) (hi:i<xs.length):xs[((xs.length:Int)-1+-1*(i:Int)).toNat]?=xs.reverse[i]?:=by
 rw[List.getElem?_reverse hi]
 congr 1
 lia
theorem zJ3 (xs:List Value) (f:Nat->Option Value) (hf:∀i,i<xs.length->f i=xs[i]?):(List.range xs.length).filterMap f=xs:=by
 have:∀n,n<=xs.length->(List.range n).filterMap f=xs.take n:=by
  intro n
  induction n with
  | zero=>intro _;rfl
  | succ n ih=>
   intro hn
   rw[List.range_succ,List.filterMap_append,ih (by nofun),List.take_add_one]
   rw[xC (by nofun)]
   have e:f n=some (xs[n]'(by nofun)):=by rw[hf n (by nofun),xC (by nofun)]
   simp[e]
 rw[this _ (xh _),List.take_length]
theorem zOe (xs:List Value):slicePick xs.toArray none none (some (-1))=xs.reverse.toArray:=by
 unfold slicePick
 have e1:(sliceBounds none none (some (-1)) xs.toArray.size).1=(xs.length:Int)-1:=by simp[sliceBounds]
 have e2:(sliceBounds none none (some (-1)) xs.toArray.size).2.1=-1:=by simp[sliceBounds]
 have e3:(sliceBounds none none (some (-1)) xs.toArray.size).2.2=-1:=by simp[sliceBounds]
 rw[e1,e2,e3]
 unfold sliceRange
 have ec:(if(-1:Int) > 0 then(if(xs.length:Int)-1 < -1 then(-1-((xs.length:Int)-1)+-1-1) / -1 else 0)else(if(xs.length:Int)-1 > -1 then((xs.length:Int)-1 - -1 - -1-1) / (- -1)else 0)).toNat=xs.reverse.length:=by
  rw[uM,xf (by nofun),show(- -1:Int)=1 by decide,Int.ediv_one]
  split <;> lia
 dsimp only
 rw[ec,List.filterMap_map]
 congr 1
 refine zJ3 _ _ fun i hi=>?_
 show xs.toArray[((xs.length:Int)-1+-1*(i:Int)).toNat]?=_
 rw[List.getElem?_toArray]
 exact zJ1 xs i (by simpa using hi)
end
end L2
namespace DS
noncomputable section
open Classical
noncomputable def trk (S:Store):D->Option (Bool × List D)
 | .tup l=>some (true,l)
 | .lst l=>some (false,l)
 | .ref n=>match S[n]? with
  | some (.lst l)=>some (false,l)
  | _=>none
 | _=>none
noncomputable def zipW (b1 b2:Bool) (S:Store):List D->Option Walk
 | [a,b]=>match trk S a,trk S b with
  | some (c1,l),some (c2,m)=>if c1=b1/\c2=b2 then some ⟨(l.zip m).map fun p=>.tup [p.1,p.2],gdOf S a++gdOf S b⟩else none
  | _,_=>none
 | _=>none
noncomputable def iZp (b1 b2:Bool) (a:AM):IM:=fun env S=>(a env S).bind fun xs S1=>lift (zipW b1 b2 S1 xs) S1
end
end DS
namespace L2
open PySem PySem.Spec PyProof.Rows
open DS (D Store Exn Rs SR)
section
variable {X:Cx}{K:PySem.W.Frag}{E:XE}{J:Js}{S:Store}{H:Hp}{d d1 d2:D}{v:V}
theorem zFb {l:List D}{c:Bool}(ha:AbS K J S H) (r:Rep K J H d v) (e:DS.trk S d=some (c,l)):∃a,v=.ref a/\∀J' H' S' gd,Grow J H J' H'->AbS K J' S' H'->(∀p∈DS.gdOf S d,p∈gd)->DS.gOk S' gd->∃ys,H' a=some (hoK c ys)/\RepL K J' H' l ys:=by
 cases d with
 | tup l=>cases e;obtain⟨a,xs,rfl,t,rl⟩:=r;exact⟨a,rfl,fun J' H' S' gd g _ _ _=>⟨xs,(t.grow g).1,RepL.grow g _ _ rl⟩⟩
 | lst l=>cases e;obtain⟨a,xs,rfl,t,rl⟩:=r;exact⟨a,rfl,fun J' H' S' gd g _ _ _=>⟨xs,(t.grow g).1,RepL.grow g _ _ rl⟩⟩
 | ref n=>
  obtain⟨a,ea,rfl⟩:=r
  obtain⟨c',ec,o,eo,rc⟩:=ha.at ea
  have e:(match S[n]? with|some (.lst l)=>some (false,l)|_=>none)=some (c,l):=e
  rw[ec]at e
  cases c' with
  | lst l'=>
   cases e
   refine⟨a,rfl,fun J' H' S' gd g ha' sub ok=>?_⟩
   have e':=ok (n,.lst l) (sub _ (by simp[DS.gdOf,ec]))
   obtain⟨o',eo',rc'⟩:=ha'.ob n a _ (g.pre n a ea) e'
   obtain⟨ys,rfl,rl'⟩:=rc'
   exact⟨ys,eo',rl'⟩
  | _=>cases e
 | _=>cases e
theorem zY2 {a b:Addr}{b1 b2:Bool}{l m:List D}{gd:List (Nat × D)}(h1:∀J' H' S',Grow J H J' H'->AbS K J' S' H'->DS.gOk S' gd->∃ys,H' a=some (hoK b1 ys)/\RepL K J' H' l ys)
  (h2:∀J' H' S',Grow J H J' H'->AbS K J' S' H'->DS.gOk S' gd->∃ys,H' b=some (hoK b2 ys)/\RepL K J' H' m ys):ItOk K J H ⟨(l.zip m).map fun p=>.tup [p.1,p.2],gd⟩ (Itk b1 b2 a b) where
 go:=fun i H' J' S' ha g gd hi=>by
  obtain⟨xs,q1,r1⟩:=h1 J' H' S' g ha gd
  obtain⟨ys,q2,r2⟩:=h2 J' H' S' g ha gd
  have hi':i<l.length/\i<m.length:=by rw[xq,List.length_zip]at hi;lia
  exact⟨xs,ys,xs[i]'(by rw[<- r1.length];exact hi'.1),ys[i]'(by rw[<- r2.length];exact hi'.2),q1,q2,xC _,xC _⟩
 yld:=fun i H' J' S' x H'' ha g gd yl d ed=>by
  obtain⟨T,xs',ys',x1,y1,rfl,hT,e1,e2,g1,g2,rfl⟩:=yl
  obtain⟨xs,q1,r1⟩:=h1 J' H' S' g ha gd
  obtain⟨ys,q2,r2⟩:=h2 J' H' S' g ha gd
  have ex:=zM2 (xD (q1.symm.trans e1))
  have ey:=zM2 (xD (q2.symm.trans e2))
  subst ex ey
  obtain⟨dx,f1,p1⟩:=r1.get' g1
  obtain⟨dy,f2,p2⟩:=r2.get' g2
  rw[vp,show(l.zip m)[i]?=some (dx,dy)from List.getElem?_zip_eq_some.mpr ⟨f1,f2⟩]at ed
  cases ed
  refine⟨ha.push hT,.push hT,T,_,rfl,⟨zA5,ha.out hT⟩,x1,[y1],rfl,Rep.grow (.push hT) _ _ p1,y1,[],rfl,Rep.grow (.push hT) _ _ p2,rfl⟩
 stop:=fun i H' J' S' ha g gd hi=>by
  obtain⟨xs,q1,r1⟩:=h1 J' H' S' g ha gd
  obtain⟨ys,q2,r2⟩:=h2 J' H' S' g ha gd
  refine⟨xs,ys,q1,q2,?_⟩
  rw[xq,List.length_zip]at hi
  rw[<- r1.length,<- r2.length]
  lia
theorem zYy (b1 b2:Bool) {a b:Expr}{es:List Expr}{k:Nat}{tpos p pos:Pos}{am:DS.AM}(hg:Gl X "zip") (hm:X.mg "zip"=none) (ha:DA X K E [a,b] am) (h1:nst a=true:=by rfl) (h2:nst b=true:=by rfl):DI X K E (.Tuple es k tpos) (.Call (.Name "zip" p) [a,b] [] pos) (DS.iZp b1 b2 am):=
 ⟨(qzk b1 b2 hg hm ha.h (by rw[zAo h1,zAo h2];rfl) (by rw[zAo h2];rfl)).imp fun σ H R ⟨env,S,J,h,hE,q⟩=>⟨env,S,J,h,hE,q.bind.imp fun ds S1 J1 H1 e1 a1 g1 q1 xs rx=>by
  obtain⟨w,ew,k⟩:=q1.lift
  have hl:=ha.len _ _ _ _ e1
  match ds,hl with
  | [d,d'],_=>
   obtain⟨x,y,rfl,r,r'⟩:=zK0 rx
   unfold DS.zipW at ew
   simp only at ew
   cases t1:DS.trk S1 d with
   | none=>rw[t1]at ew;cases ew
   | some p1=>
    cases t2:DS.trk S1 d' with
    | none=>rw[t1,t2]at ew;cases ew
    | some p2=>
     obtain⟨c1,l⟩:=p1
     obtain⟨c2,m⟩:=p2
     rw[t1,t2]at ew
     simp only at ew
     split at ew
     ·rename_i hc
      obtain⟨rfl,rfl⟩:=hc
      cases ew
      obtain⟨a',rfl,s1⟩:=zFb a1 r t1
      obtain⟨b',rfl,s2⟩:=zFb a1 r' t2
      have z1:=fun J' H' S' g ab ok=>s1 J' H' S' (DS.gdOf S1 d++DS.gdOf S1 d') g ab (fun p hp=>vQ _ hp) ok
      have z2:=fun J' H' S' g ab ok=>s2 J' H' S' (DS.gdOf S1 d++DS.gdOf S1 d') g ab (fun p hp=>xT _ hp) ok
      have ok0:DS.gOk S1 (DS.gdOf S1 d++DS.gdOf S1 d'):=fun p hp=>by
       have key:∀e,∀p∈DS.gdOf S1 e,S1[p.1]?=some p.2:=fun e p hp=>by
        cases e with
        | ref n=>
         have hp:p∈(match S1[n]? with|some d=>[(n,d)]|none=>[]):=hp
         cases en:S1[n]? with
         | none=>rw[en]at hp;cases hp
         | some c=>rw[en]at hp;rw[xV.mp hp];exact en
        | _=>cases hp
       rcases vn.mp hp with hp|hp
       ·exact key _ p hp
       ·exact key _ p hp
      obtain⟨xs,f1,_⟩:=z1 J1 H1 S1 .refl a1 ok0
      obtain⟨ys,f2,_⟩:=z2 J1 H1 S1 .refl a1 ok0
      exact⟨a',b',rfl,⟨xs,f1⟩,⟨ys,f2⟩,k J1 H1 a1 .refl _ (zY2 z1 z2)⟩
     ·cases ew⟩⟩
end
end L2
namespace L2
open PySem PySem.Spec PyProof.Rows
open DS (D Store Exn Rs SR)
noncomputable def locB (o:Option NameKind):Bool:=o == some .local || o == some .cell
noncomputable def visB (o:Option NameKind):Bool:=locB o || o == some .free
theorem zHy {o:Option NameKind}(h:locB o=true):o=some .local\/o=some .cell:=by simpa[locB]using h
theorem zE2 {o:Option NameKind}(h:visB o=true):o=some .local\/o=some .cell\/o=some .free:=by simpa[visB,locB,or_assoc]using h
noncomputable def ndB:List Str->Bool
 | []=>true
 | x::r=>!(r.contains x) && ndB r
theorem zEh:∀{l:List Str},ndB l=true->l.Nodup
 | [],_=>List.nodup_nil
 | x::r,h=>by
  simp only[ndB,xm,vM,List.contains_eq_mem,decide_eq_false_iff_not]at h
  exact vo.mpr ⟨h.1,zEh h.2⟩
noncomputable def varB (X:Cx) (i:Nat) (x:Str):Bool:=X.N[i]? == some x && (visB (X.env.scope.names.lookup x) && (!(x == ("__debug__":Str)) && !(x == ("__classdict__":Str))))
noncomputable def setB (X:Cx) (j:Nat) (x:Str):Bool:=ndB X.N && (X.N[j]? == some x && (locB (X.env.scope.names.lookup x) && (X.fn x || X.env.scope.names.lookup x == some .local)))
noncomputable def tgN:Expr->List Str
 | .Name x _=>[x]
 | .Tuple ts _ _=>ts.flatMap fun
  | .Name x _=>[x]
  | .Tuple us _ _=>us.flatMap fun
   | .Name x _=>[x]
   | _=>[]
  | _=>[]
 | _=>[]
noncomputable def freN (N:List Str) (ix:List Nat):List Str:=ix.map fun i=>N.getD i ""
noncomputable def cmpB (X:Cx) (tg iter:Expr) (n:Nat) (ix:List Nat) (scope:Scope):Bool:=X.calm && (nse iter && ((tgN tg).length == n && zMs X.env.scope X.N (tgN tg) (freN X.N ix) ix scope))
section
variable {X:Cx}{K:PySem.W.Frag}{E:XE}{e a b c:Expr}{es:List Expr}{p pos:Pos}{m ma mb mc:DS.EM}{mt mu:DS.TM}
theorem zYk {i:Nat}{x:Str}(h:varB X i x=true):DE X K E (.Name x pos) (DS.eVar i):=by
 simp only[varB,xm,vM]at h
 exact zZ3 i (by simpa using h.1) (zE2 h.2.1) h.2.2.1 h.2.2.2
theorem zCn {j:Nat}{x:Str}(h:setB X j x=true):X.N.Nodup/\X.N[j]?=some x/\Loc X.env.scope x/\(X.fn x=true\/X.env.scope.names.lookup x=some .local):=by
 simp only[setB,xm,Bool.or_eq_true]at h
 exact⟨zEh h.1,by simpa using h.2.1,zHy h.2.2.1,by simpa using h.2.2.2⟩
theorem zYm {j:Nat}{x:Str}{pos':Pos}(h:(setB X j x && nco e)=true) (he:DE X K E e m):DS1 X K E (.Assign [.Name x pos'] e pos) (DS.sSet j m):=by
 rw[xm]at h
 have z:=zCn h.1
 exact zUf z.1 z.2.1 z.2.2.1 he z.2.2.2 h.2
theorem zU9 {j:Nat}{x:Str}(h:setB X j x=true):DG X K (.Name x pos) (DS.gName j):=
 have z:=zCn h
 zUp z.1 z.2.1 z.2.2.1 z.2.2.2
theorem zIi {tg iter:Expr}{n:Nat}{ix:List Nat}{scope:Scope}(h:cmpB X tg iter n ix scope=true):X.calm=true/\nse iter=true/\(tgN tg).length=n/\CompScope X (tgN tg) (freN X.N ix) ix scope:=by
 simp only[cmpB,xm]at h
 exact⟨h.1,h.2.1,by simpa using h.2.2.1,.mk' rfl rfl h.2.2.2⟩
section
variable {ix:List Nat}{n:Nat}{scope:Scope}{j:Nat}{x:Str}{cpos pos':Pos}{tg elt iter:Expr}{ifs:List Expr}{im:DS.IM}{g:DS.GM}
theorem zUb (h:cmpB X tg iter n ix scope=true) (hi:DI X K E tg iter im)
  (hg:∀cl C s H fp,DG (zA7 X (tgN tg++freN X.N ix) scope cl C s H fp) K tg g) (ht:∀cl C s H fp,DIf (zA7 X (tgN tg++freN X.N ix) scope cl C s H fp) K E ifs mt) (he:∀cl C s H fp,DE (zA7 X (tgN tg++freN X.N ix) scope cl C s H fp) K E elt m):
  DF X K E (.ListComp elt [⟨tg,iter,ifs,0⟩] scope pos) (DS.zAf n ix im g mt m):=
 have z:=zIi h
 zUq z.1 z.2.2.2 hi hg ht he z.2.2.1 z.2.1
theorem zU7 (hsw:swapsWith (.ListComp elt [⟨tg,iter,ifs,0⟩] scope cpos) (some (.Name x pos')) pos.line X.env=pure true) (h1:setB X j x=true) (h:cmpB X tg iter n ix scope=true) (hi:DI X K E tg iter im)
  (hg:∀cl C s H fp,DG (zA7 X (tgN tg++freN X.N ix) scope cl C s H fp) K tg g) (ht:∀cl C s H fp,DIf (zA7 X (tgN tg++freN X.N ix) scope cl C s H fp) K E ifs mt) (he:∀cl C s H fp,DE (zA7 X (tgN tg++freN X.N ix) scope cl C s H fp) K E elt m):
  DS1 X K E (.Assign [.Name x pos'] (.ListComp elt [⟨tg,iter,ifs,0⟩] scope cpos) pos) (DS.sSet j (DS.zAf n ix im g mt m)):=
 have z:=zIi h
 have y:=zCn h1
 zPn y.1 y.2.1 y.2.2.1 z.1 z.2.2.2 hi hg ht he hsw z.2.1 y.2.2.2 z.2.2.1
end
noncomputable def glB (X:Cx) (x:Str):Bool:=X.env.kindOf x == some .globalImplicit
theorem zBy {x:Str}(h:glB X x=true):Gl X x:=by simpa[glB,Gl]using h
noncomputable def zH0 (X:Cx) (x:Str) (es:List Expr):Bool:=glB X x && (!(x == ("__debug__":Str)) && (!(x == ("__name__":Str)) && es.all nst))
theorem zBk {x:Str}(h:zH0 X x es=true):Gl X x/\(x == ("__debug__":Str))=false/\x≠"__name__"/\es.all nst=true:=by
 simp only[zH0,xm,vM]at h
 exact⟨zBy h.1,h.2.1,by simpa using h.2.2.1,h.2.2.2⟩
theorem zUc {x:Str}{k:Nat}{ps:List Str}{F:DS.Fn}{am:DS.AM}(C:Cal X.prog X.w X.K X.mg X.base x k ps (spOf K E F)) (hr:Room k X.A) (h:zH0 X x (e::es)=true) (ha:DA X K E (e::es) am):DE X K E (.Call (.Name x p) (e::es) [] pos) (DS.zA8 F am):=
 have z:=zBk h
 zUv C hr z.1 ha z.2.1 z.2.2.2
theorem yB0 {x:Str}{iq:String}{am:DS.AM}{g:Store->List D->Option D}(hc:zAu X (.builtin iq) (cOf K g)) (hv:bootBuiltins x=some (.builtin iq)) (hm:X.mg x=none) (h:zH0 X x (e::es)=true) (ha:DA X K E (e::es) am):DE X K E (.Call (.Name x p) (e::es) [] pos) (DS.eCB g am):=
 have z:=zBk h
 yBa hc z.1 hm hv ha z.2.2.1 z.2.1 z.2.2.2
theorem yAz {x:Str}{T:String}{am:DS.AM}{g:Store->List D->Option D}(hc:zAu X (.type T) (cOf K g)) (hv:bootBuiltins x=some (.type T)) (hm:X.mg x=none) (h:zH0 X x (e::es)=true) (ha:DA X K E (e::es) am):DE X K E (.Call (.Name x p) (e::es) [] pos) (DS.eCB g am):=
 have z:=zBk h
 yB9 hc z.1 hm hv ha z.2.2.1 z.2.1 z.2.2.2
structure MtS (T:String) (x:Str) (iq:String):Prop where
 pa:PlainAttrs T
 sl:Slot T x iq
 ty:typeOf (.builtin iq)=pure (.type "method_descriptor")
 hT:T="str"\/T="list"\/T="dict"
theorem zNu:MtS "list" "append" "list.append":=⟨PySem.F.plainAttrs_list,PySem.F.slot_list_append,PySem.F.type_list_append,.inr (.inl rfl)⟩
theorem s_pop:MtS "list" "pop" "list.pop":=⟨PySem.F.plainAttrs_list,PySem.F.slot_list_pop,PySem.F.type_list_pop,.inr (.inl rfl)⟩
theorem zFd:MtS "str" "startswith" "str.startswith":=⟨PySem.F.plainAttrs_str,PySem.F.slot_str_startswith,PySem.F.type_str_startswith,.inl rfl⟩
theorem s_split:MtS "str" "split" "str.split":=⟨PySem.F.plainAttrs_str,u9,PySem.F.type_str_split,.inl rfl⟩
theorem zVx:MtS "str" "join" "str.join":=⟨PySem.F.plainAttrs_str,PySem.F.slot_str_join,PySem.F.type_str_join,.inl rfl⟩
noncomputable def mtB (o:Expr) (es:List Expr) (apos cpos:Pos):Bool:=nba o && (es.all nst && (decide (es.length+0+0<30) && (apos.endLine == cpos.line)))
theorem zPl {T iq:String}{x:Str}{o:Expr}{apos cpos:Pos}{g:Store->D->List D->Option (D × Store)}{mo:DS.EM}{am:DS.AM}(S:MtS T x iq) (hm:MtR X iq (mOf K g)) (h:mtB o (e::es) apos cpos=true) (hK:X.K=K) (ho:DE X K E o mo) (ha:DA X K E (e::es) am):
  DE X K E (.Call (.Attribute o x apos) (e::es) [] cpos) (DS.eMt T g mo am):=by
 simp only[mtB,xm]at h
 exact yB6 S.pa S.sl S.ty hm S.hT ho ha h.1 h.2.1 h.2.2.1 h.2.2.2 hK
theorem zYn {T iq:String}{x:Str}{o:Expr}{apos cpos:Pos}{g:Store->D->List D->Option (D × Store)}{mo:DS.EM}(S:MtS T x iq) (hm:MtR X iq (mOf K g)) (h:mtB o [] apos cpos=true) (hK:X.K=K) (ho:DE X K E o mo):
  DE X K E (.Call (.Attribute o x apos) [] [] cpos) (DS.eMt T g mo DS.aNil):=by
 simp only[mtB,xm]at h
 exact zZa S.pa S.sl S.ty hm S.hT ho h.1 h.2.2.2 hK
end
noncomputable def scB (N ps:List Str) (sc:Scope):Bool:=sc.kind == .function && (!sc.isCoroutine && (!sc.isGenerator && (ndB N && (N.take ps.length == ps && (ps.all (fun x=>locB (sc.names.lookup x)) && sc.names.all fun y=>y.2 != .free)))))
theorem zCz {N ps:List Str}{sc:Scope}(h:scB N ps sc=true):zBl N ps sc:=by
 simp only[scB,xm,vM,xO]at h
 obtain⟨h1,h2,h3,h4,h5,h6,h7⟩:=h
 exact⟨by simpa using h1,h2,h3,zEh h4,by simpa using h5,fun x hx=>zHy (h6 x hx),fun y hy=>by simpa using h7 y hy⟩
noncomputable abbrev fO (x:Str) (tq:Stmt) (pm:Value) (cd:Addr):Obj:=⟨.type "function",none,.func (PySem.W.fnOf x x (zAx tq) (zAa tq) (zA1 tq) .none .none .none pm none (.ref cd) .none),#[]⟩
structure Gd (K:PySem.W.Frag) (mg:Str->Option Value):Prop where
 a:∀x v,PySem.W.nsIn K mainGlobals x=some (some v)->mg x=some v
 z:∀x,PySem.W.nsIn K mainGlobals x=some none->mg x=none
section
variable {P:Program}{w:World}{K:PySem.W.Frag}{mg:Str->Option Value}{base:Heap}
theorem zI7 {f cd:Addr}{x:Str}{tq:Stmt}{pm:Value}(l:K.lookup f=some (fO x tq pm cd)) (c:PySem.W.codeIn K (.ref cd) x=true) (kp:PySem.W.keepIn K (.ref f)=true):Fun K x x tq f (PySem.W.fnOf x x (zAx tq) (zAa tq) (zA1 tq) .none .none .none pm none (.ref cd) .none):=zQy l c kp
theorem zDa (G:Gd K mg) (f cd:Addr) (tq:Stmt) (pm:Value) (N:List Str) {x:Str}{ps:List Str}{k:Nat}{b:DS.SM}
  (hb:∀(cdv:Value) (A:Around) (outer:List PySem.Env) (s:Shared) (H:Hp) (E:XK),Room k (A.deeper (envOfC x (zA1 tq) s.heap.objs.size f cdv))->DSs (cxOf CX0 P w K mg base N x (zA1 tq) f cdv A outer s H E).nox K XE0 (zAa tq) b)
  (l:K.lookup f=some (fO x tq pm cd)) (c:(PySem.W.codeIn K (.ref cd) x && (PySem.W.keepIn K (.ref f) && scB N ps (zA1 tq)))=true) (hm:PySem.W.nsIn K mainGlobals x=some (some (.ref f)))
  (bd:∀(kV doc pm:Value) (an:Option Addr) (cdv ct:Value) (us:List Value),us.length=ps.length->bindArgs (PySem.W.fnOf x x (zAx tq) (zAa tq) (zA1 tq) .none kV doc pm an cdv ct) ⟨us,[]⟩=pure (ps.zip us)):Cal P w K mg base x (k+1) ps (spOf K XE0 (DS.zAi ps.length N.length b)):=by
 rw[xm,xm]at c
 have F:=zI7 l c.1 c.2.1
 exact⟨_,_,fn_d F (zCz c.2.2) rfl rfl hb,G.a _ _ hm,F.kp,F.binds bd⟩
theorem yBe (G:Gd K mg) (f cd:Addr) (tq:Stmt) (pm:Value) (N:List Str) {x:Str}{ps:List Str}{k:Nat}{b:DS.SM}
  (hb:∀(cdv:Value) (A:Around) (outer:List PySem.Env) (s:Shared) (H:Hp) (E:XK),Room k (A.deeper (envOfC x (zA1 tq) s.heap.objs.size f cdv))->DSs (cxOf CX0 P w K mg base N x (zA1 tq) f cdv A outer s H E).nox K XE0 (zAa tq) b)
  (l:K.lookup f=some (fO x tq pm cd)) (c:(PySem.W.codeIn K (.ref cd) x && (PySem.W.keepIn K (.ref f) && scB N ps (zA1 tq)))=true) (hm:PySem.W.nsIn K mainGlobals x=some (some (.ref f)))
  (bd:∀(kV doc pm:Value) (an:Option Addr) (cdv ct:Value) (us:List Value),us.length=ps.length->bindArgs (PySem.W.fnOf x x (zAx tq) (zAa tq) (zA1 tq) .none kV doc pm an cdv ct) ⟨us,[]⟩=pure (ps.zip us)):Cal P w K mg base x (k+1) ps (spOf K XE0 (DS.zDg ps.length N.length b)):=by
 rw[xm,xm]at c
 have F:=zI7 l c.1 c.2.1
 exact⟨_,_,fn_r F (zCz c.2.2) rfl rfl hb,G.a _ _ hm,F.kp,F.binds bd⟩
end
end L2
namespace DS
noncomputable def eqI (_:Store) (x y:D):Option D:=match x,y with
 | .int a,.int b=>some (.bl (decide (a=b)))
 | _,_=>none
noncomputable def putN (S:Store) (o k v:D):Option Store:=match o with
 | .ref n=>match S[n]? with
  | some (.dct false ks vs)=>if zCl false k=true/\ks.length<most then some (S.set n (.dct false (put2 ks vs k v).1 (put2 ks vs k v).2))else none
  | _=>none
 | _=>none
theorem zMe {S:Store}{a b:Int}:eqI S (.int a) (.int b)=some (.bl (decide (a=b))):=rfl
end DS
namespace L2
open PySem PySem.Spec PyProof.Rows
open DS (D Store Exn Rs SR)
section
variable {X:Cx}{K:PySem.W.Frag}
theorem zZf {pins:List (Addr × Obj)}{σ:St}{H:Hp}{s:Shared}{a:Addr}{kvs:List (Key × V)}{k:Key}{v:V}{u r:Value}{A:Around}{E:Value->Shared->Prop}{Q:Unit->Shared->Prop}(I:Inv X pins σ H s) (e:H a=some (.dK kvs)) (l:kvs.length<sizeLine) (ry:RelV (kV k) u) (rv:RelV v r) (h:∀s',Inv X pins σ (upd H a (.dK (putK kvs k v))) s'->Q () s'):
  wpAny (model X.prog X.w) A (setItem (.ref a) u r) Q E s:=by
 obtain⟨z,hd,vs,rel,dd⟩:=zYx I.hok e
 refine wpAny_setItem_pairs (hsz:=by rw[<- rel.length];exact z) (zP5 ry) dd fun h' dd' hs=>h _ ?_
 exact zMo I (by rw[e];exact True.intro) hs (let ⟨q,_,_,hq,_⟩:=dd';⟨q,hq⟩) (zR3 (xp (zD2 kvs k v) l) hd (rel.put k rv) dd')
theorem zZv:PSet X (pOf K DS.putN):=by
 intro pins s σ H o i v ov iv u Q I ro ri rv hq29
 obtain⟨J,S,d1,d2,d3,S',ha,r1,r2,r3,e,k⟩:=hq29
 unfold DS.putN at e
 split at e
 ·rename_i n
  obtain⟨a,ea,rfl⟩:=r1
  obtain⟨c,ec,ob,eo,rc⟩:=ha.at ea
  split at e
  ·rename_i ks vs es
   rw[ec]at es;cases es
   obtain⟨xs,q,rl⟩:=rc
   split at e
   ·rename_i hk
    cases e
    cases ro
    have hk1:=hk.1
    unfold DS.zCl at hk1
    rw[xm]at hk1
    rcases q with⟨_,kvs,rfl,rfl,rfl⟩|⟨z,_⟩
    ·obtain⟨kk,rfl⟩:=zHp hk1.1 fun l z=>by subst z;cases hk1.2
     obtain rfl:=zEm r2
     obtain⟨p1,p2⟩:=zWc (fun a b=>zEn) (k:=kk) rl r3
     exact zZf I eo (by have:=hk.2;rw[xq]at this;exact this) ri rv fun s' I'=>⟨_,I',k _ (ha.write ea ⟨_,.inl ⟨rfl,_,rfl,p1,rfl⟩,p2⟩) (.write ea)⟩
    ·cases z
   ·cases e
  ·cases e
 ·cases e
end
end L2
namespace DS
noncomputable section
open Classical
noncomputable def mulE (S:Store) (x y:D):Option D:=match litems S x,y with
 | some l,.int n=>if l≠[]/\0<=n/\l.length*n.toNat<=most/\n<=1000000 then some (.lst (List.replicate n.toNat l).flatten)else none
 | _,_=>mulD S x y
end
end DS
namespace DS
noncomputable section
open Classical
noncomputable def lvs (l:List D):Prop:=∃n,n<=5/\∀d∈l,lv n d
noncomputable def neK (_:Store) (x y:D):Option D:=match x,y with
 | .int a,.int b=>some (.bl (!decide (a=b)))
 | .bl a,.bl b=>some (.bl (!decide (a=b)))
 | .str a,.str b=>some (.bl (!decide (a=b)))
 | .tup l,.tup m=>if lvs (l++m)then some (.bl (!decide (l=m)))else none
 | _,_=>none
noncomputable def ssK (S:Store) (d:D):Option D:=match litems S d with
 | some l=>if setable l then some (.lst (srt (dedup l)))else none
 | none=>none
end
end DS
namespace DS
open PySem (Str)
noncomputable section
open Classical
noncomputable def startM (S:Store) (x:D) (xs:List D):Option (D × Store):=match x,xs with
 | .str z,[.str y]=>some (.bl (PySem.Txt.startswith z y),S)
 | _,_=>none
noncomputable def splitM (S:Store) (x:D) (xs:List D):Option (D × Store):=match x,xs with
 | .str z,[.str y]=>if 0<y.length/\z.length<=100000/\(PySem.Txt.split z y).length<=most then some (.lst ((PySem.Txt.split z y).map D.str),S)else none
 | _,_=>none
noncomputable def strsOf:List D->Option (List Str)
 | []=>some []
 | .str x::r=>(strsOf r).map (x::·)
 | _=>none
theorem zDl:∀l:List Str,strsOf (l.map D.str)=some l
 | []=>rfl
 | a::l=>by show(strsOf (l.map D.str)).map (a::·)=_;rw[zDl l];rfl
theorem zCv:∀{l:List D}{xs:List Str},strsOf l=some xs->l=xs.map D.str
 | [],xs,h=>by cases h;rfl
 | a::l,xs,h=>by
  cases a with
  | str x=>
   have h:(strsOf l).map (x::·)=some xs:=h
   cases e:strsOf l with
   | none=>rw[e]at h;cases h
   | some ys=>rw[e]at h;cases h;rw[zCv e];rfl
  | _=>cases h
noncomputable def joinM (S:Store) (x:D) (xs:List D):Option (D × Store):=match x,xs with
 | .str sep,[d]=>match(match look S d with|some (.lst l)=>strsOf l|_=>none)with
  | some ys=>if sep.length<=16/\(ys.map (·.length)).sum+ys.length<=1048576 then some (.str (PySem.Txt.join sep ys),S)else none
  | none=>none
 | _,_=>none
noncomputable def strI (_:Store):List D->Option D
 | [.int i]=>if i.natAbs.log2<1920 then some (.str (Str.ofString (toString i)))else none
 | _=>none
noncomputable def intS (_:Store):List D->Option D
 | [.str x]=>match PySem.intText? x with
  | some n=>if x.length<=640 then some (.int n)else none
  | none=>none
 | _=>none
end
end DS
namespace DS
noncomputable section
open Classical
noncomputable def eqE (S:Store) (x y:D):Option D:=match look S x,y with
 | some (.lst l),.lst []=>some (.bl (decide (l=[])))
 | _,_=>none
end
end DS
namespace DS
open PySem (Str)
noncomputable section
open Classical
noncomputable def inTO (S:Store) (x y:D):Option Bool:=match x,y with
 | .str a,.tup l=>match strsOf l with
  | some ys=>some (decide (a∈ys))
  | none=>none
 | .str a,.str b=>some (!(PySem.Builtin.Str.occurrences b a 0 b.length 1).isEmpty)
 | _,_=>none
noncomputable def zFh (S:Store) (x y:D):Option D:=(inTO S x y).map fun b=>.bl (!b)
end
end DS
namespace DS
noncomputable section
open Classical
noncomputable def yAo (x y:D):Prop:=(∃a b,x=.str a/\y=.str b)\/∃n,n<=5/\lv n x/\lv n y
end
end DS
namespace DS
open PySem (Str)
noncomputable section
open Classical
noncomputable def slS (S:Store) (x:D) (lo hi:Option Int):Option D:=match x with
 | .str z=>if(∀v,lo=some v->0<=v)/\(∀v,hi=some v->0<=v)/\z.length<=100000 then some (.str ⟨(cutL z.cps.toList lo hi).toArray⟩)else none
 | x=>slD S x lo hi
noncomputable def revZ (S:Store) (x:D):Option D:=match x with
 | .str z=>if z.length<=100000 then some (.str ⟨z.cps.toList.reverse.toArray⟩)else none
 | x=>match look S x with
  | some (.lst l)=>some (.lst l.reverse)
  | _=>none
noncomputable def ordB (_:Store):List D->Option D
 | [.str z]=>if z.length=1 then some (.int (z.cps.getD 0 0:Nat))else none
 | _=>none
noncomputable def nOk:D->Bool
 | .non=>true
 | .int _=>true
 | .tup _=>true
 | _=>false
noncomputable def inNN (S:Store) (x y:D):Option D:=match x,look S y with
 | .non,some (.tup l)=>if l.all nOk=true then some (.bl (l.any isN))else none
 | .non,some (.lst l)=>if l.all nOk=true then some (.bl (l.any isN))else none
 | _,_=>none
noncomputable def geT (_:Store) (x y:D):Option D:=match x,y with
 | .tup l,.tup m=>if lv 1 (.tup l)/\lv 1 (.tup m)then some (.bl (!blt (.tup l) (.tup m)))else none
 | _,_=>none
noncomputable def zP2 (x y:D):Prop:=(∃a b,x=.bl a/\y=.bl b)\/yAo x y
noncomputable def eqY (_:Store) (x y:D):Option D:=match x,y with
 | .str a,.str b=>some (.bl (decide (a=b)))
 | .tup l,.tup m=>if ∀p∈l.zip m,zP2 p.1 p.2 then some (.bl (decide (l=m)))else none
 | _,_=>none
noncomputable def neE (S:Store) (x y:D):Option D:=match x,y with
 | .int a,.int b=>some (.bl (!decide (a=b)))
 | x,.lst []=>match look S x with
  | some (.lst l)=>some (.bl (!decide (l=[])))
  | _=>none
 | _,_=>none
end
end DS
namespace DS
noncomputable def exOf (d:D):Exn:=⟨"",[("",d)]⟩
noncomputable def Rs.ne {α:Type}(r:Rs α):Rs α:=match r with
 | .ok a S=>.ok a S
 | _=>.bad
noncomputable def SR.ne (r:SR):SR:=match r with
 | .ex _ _=>.bad
 | r=>r
noncomputable def neR {α:Type}(m:Env->Store->Rs α):Env->Store->Rs α:=fun env S=>(m env S).ne
noncomputable def neS (m:SM):SM:=fun env S=>(m env S).ne
@[simp] theorem Rs.ne_ok {α:Type}{a:α}{S:Store}:(Rs.ok a S).ne=.ok a S:=rfl
@[simp] theorem SR.ne_nx {e:Env}{S:Store}:(SR.nx e S).ne=.nx e S:=rfl
@[simp] theorem SR.ne_rt {d:D}{S:Store}:(SR.rt d S).ne=.rt d S:=rfl
noncomputable def zKj (mk:List D->Option D) (am:AM):SM:=fun env S=>(am env S).then fun ds S'=>match mk ds with
 | some d=>.ex (exOf d) S'
 | none=>.bad
noncomputable def mkX (C:Nat) (f:PySem.Str) (ds:List D):Option D:=match ds with
 | [d]=>some (.st [.int C,.str f,d])
 | _=>none
noncomputable def sTry (isC:Int->Bool) (i j:Nat) (m:EM) (ms:SM):SM:=fun env S=>match m env S with
 | .ok d S'=>.nx (env.set i (some d)) S'
 | .ex ⟨_,[(_,.st (.int c::l))]⟩ S'=>if isC c=true then(match ms (env.set j (some (.st (.int c::l)))) S' with
  | .nx e S2=>.nx (e.set j none) S2
  | _=>.bad)else .bad
 | _=>.bad
noncomputable def zMg (c m:EM):EM:=fun env S=>(c env S).bind fun x S1=>(m env S1).bind fun y S2=>.ok (.tup [x,y]) S2
noncomputable def fldL (f:PySem.Str):List D->Option D
 | .str g::d::l=>if f == g then some d else fldL f l
 | _=>none
noncomputable def fldX (okC:Int->Bool) (f:PySem.Str) (d:D):Option D:=match d with
 | .st (.int c::l)=>if okC c then fldL f l else none
 | _=>none
noncomputable def eFld (okC:Int->Bool) (f:PySem.Str) (m:EM):EM:=fun env S=>(m env S).bind fun d S1=>lift (fldX okC f d) S1
noncomputable def isX (g:Int->Option Bool) (d:D):Option D:=match d with
 | .st (.int c::_)=>(g c).map .bl
 | _=>none
noncomputable def eIsX (g:Int->Option Bool) (m:EM):EM:=fun env S=>(m env S).bind fun d S1=>lift (isX g d) S1
noncomputable def inC (l:List Nat) (c:Int):Bool:=l.any fun(n:Nat)=>c == (n:Int)
noncomputable def lkC (l:List (Nat × Bool)) (c:Int):Option Bool:=(l.find? fun p=>c == (p.1:Int)).map (·.2)
end DS
namespace DP
open DS
noncomputable section
noncomputable def zHa:SM:=
  (sRet (eCB allB (zA0 (zAf 2 [] (iZp true true (zA0 (eVar 0) (zA0 (eSl slD (eVar 0) (pYes (eC (.int 1))) pNo) aNil))) (gTup [(gName 0),(gName 1)]) tYes (eOp ltN (eVar 0) (eVar 1))) aNil)))
noncomputable def zAq:Fn:=zAi 1 1 zHa
noncomputable def zHb:SM:=
  (sSeq (sSet 2 (eIf (tTru (eMt "str" startM (eVar 0) (zA0 (eC (.str (PySem.Str.ofString "-"))) aNil))) (eSl slS (eVar 0) (pYes (eC (.int 1))) pNo) (eVar 0)))
  (sSeq (sIf (tNot (tB (zAy leD leD (eC (.int 1)) (eCB lenB (zA0 (eVar 2) aNil)) (eVar 1)))) (sRet (eC (.bl false))) zAv)
  (sSeq (sIf (tNot (tTru (eCB allB (zA0 (zAf 1 [] (iVal (eVar 2)) (gName 0) tYes (zAy leD leD (eC (.str (PySem.Str.ofString "0"))) (eVar 0) (eC (.str (PySem.Str.ofString "9"))))) aNil)))) (sRet (eC (.bl false))) zAv)
  (sRet (eOr (eOp eqY (eVar 0) (eC (.str (PySem.Str.ofString "0")))) (eOp neK (eOp ixD (eVar 2) (eC (.int 0))) (eC (.str (PySem.Str.ofString "0")))))))))
noncomputable def zB4:Fn:=zAi 2 3 zHb
noncomputable def zHf:SM:=
  (sSeq (sSet 2 (zAf 1 [] (iVal (eSl slD (eVar 0) (pYes (eVar 1)) (pYes (eC (.int 63))))) (gName 0) tYes (eCB max2B (zA0 (eVar 0) (zA0 (eOp subD (eC (.int 0)) (eVar 0)) aNil)))))
  (sSeq (sSet 3 (eOp addD (eC (.int 7919)) (eVar 1)))
  (sSeq (sFor (iVal (eVar 2)) (gName 4) (sSet 3 (eOp modD (eOp addD (eOp mulD (eVar 3) (eC (.int 48271))) (eOp modD (eVar 4) (eC (.int 2147483629)))) (eC (.int 2147483647)))))
  (sRet (zPj [(.str (PySem.Str.ofString "seed")),(.str (PySem.Str.ofString "number")),(.str (PySem.Str.ofString "left"))] (zA0 (eVar 3) (zA0 (eC (.int 0)) (zA0 (eNew (eUn revL (zAf 1 [] (iVal (eVar 2)) (gName 0) (tB (eOp geD (eVar 0) (eOp powD (eC (.int 10)) (eC (.int 18))))) (eVar 0)))) aNil))))))))
noncomputable def zC0:Fn:=zDg 2 5 zHf
noncomputable def zHe:SM:=
  (sSeq (zD0 (tAnd (tB (eOp eqI (eOp ixD (eVar 0) (eC (.str (PySem.Str.ofString "number")))) (eC (.int 0)))) (tB (eOp gtD (eCB lenB (zA0 (eOp ixD (eVar 0) (eC (.str (PySem.Str.ofString "left")))) aNil)) (eC (.int 0))))) (sPut putN (eVar 0) (eC (.str (PySem.Str.ofString "number"))) (eMt "list" popM (eOp ixD (eVar 0) (eC (.str (PySem.Str.ofString "left")))) aNil)))
  (sSeq (sSet 2 (eOp ixD (eVar 0) (eC (.str (PySem.Str.ofString "number")))))
  (sSeq (sIf (tB (eOp gtD (eVar 2) (eC (.int 0)))) (sSeq (sPut putN (eVar 0) (eC (.str (PySem.Str.ofString "number"))) (eOp zGv (eVar 2) (eVar 1)))
  (sRet (eOp modD (eVar 2) (eVar 1)))) zAv)
  (sSeq (sSet 3 (eOp modD (eOp addD (eOp mulD (eOp ixD (eVar 0) (eC (.str (PySem.Str.ofString "seed")))) (eC (.int 48271))) (eC (.int 7919))) (eC (.int 2147483647))))
  (sSeq (sPut putN (eVar 0) (eC (.str (PySem.Str.ofString "seed"))) (eOp modD (eOp addD (eOp mulD (eVar 3) (eC (.int 40692))) (eC (.int 104729))) (eC (.int 2147483399))))
  (sSeq (sSet 4 (eOp modD (eOp mulD (eOp ixD (eVar 0) (eC (.str (PySem.Str.ofString "seed")))) (eOp ixD (eVar 0) (eC (.str (PySem.Str.ofString "seed"))))) (eC (.int 2147483563))))
  (sRet (eOp modD (eOp addD (eOp mulD (eOp modD (eOp mulD (eVar 3) (eVar 3)) (eC (.int 2147483629))) (eC (.int 2147483563))) (eVar 4)) (eVar 1)))))))))
noncomputable def zA3:Fn:=zAi 2 5 zHe
noncomputable def zF5:SM:=
  (sSeq (sPar [1,2] (zA0 (eC (.int 1)) (zA0 (eVar 0) aNil)))
  (sSeq (sIf (tB (eOp eqY (eSl slS (eVar 0) pNo (pYes (eC (.int 1)))) (eC (.str (PySem.Str.ofString "-"))))) (sPar [1,2] (zA0 (eUn negD (eC (.int 1))) (zA0 (eSl slS (eVar 0) (pYes (eC (.int 1))) pNo) aNil))) zAv)
  (sSeq (sIf (tOr (tNot (tB (zAy ltN ltN (eC (.int 0)) (eCB lenB (zA0 (eVar 2) aNil)) (eC (.int 20))))) (tAnd (tB (eOp eqY (eOp ixD (eVar 2) (eC (.int 0))) (eC (.str (PySem.Str.ofString "0"))))) (tB (eOp neK (eVar 0) (eC (.str (PySem.Str.ofString "0"))))))) (sRet (eC .non)) zAv)
  (sSeq (sSet 3 (eC (.int 0)))
  (sSeq (sFor (iVal (eVar 2)) (gName 4) (sSeq (sIf (tB (eOp zFh (eVar 4) (eC (.str (PySem.Str.ofString "0123456789"))))) (sRet (eC .non)) zAv)
  (sSet 3 (eOp subD (eOp addD (eOp mulD (eVar 3) (eC (.int 10))) (eCB ordB (zA0 (eVar 4) aNil))) (eC (.int 48))))))
  (sRet (eOp mulD (eVar 3) (eVar 1))))))))
noncomputable def zAe:Fn:=zAi 1 5 zF5
noncomputable def zDj:SM:=
  (sSeq (sSet 3 (eMt "str" splitM (eVar 0) (zA0 (eC (.str (PySem.Str.ofString ","))) aNil)))
  (sSeq (sIf (tOr (tB (eOp neK (eCB lenB (zA0 (eVar 3) aNil)) (eVar 1))) (tNot (tTru (eCB allB (zA0 (zAf 1 [2] (iVal (eVar 3)) (gName 0) tYes (zA8 zB4 (zA0 (eVar 0) (zA0 (eVar 1) aNil)))) aNil))))) (sRet (eC .non)) zAv)
  (sRet (eCB zB1 (zA0 (zAf 1 [] (iVal (eVar 3)) (gName 0) tYes (eCB intS (zA0 (eVar 0) aNil))) aNil)))))
noncomputable def zAl:Fn:=zAi 3 4 zDj
noncomputable def zCm:SM:=
  (sSeq (sIf (tB (eOp eqY (eVar 0) (eC (.str (PySem.Str.ofString "."))))) (sRet (eTup (zA0 (eC (.str (PySem.Str.ofString "island"))) (zA0 (eTup aNil) aNil)))) zAv)
  (sSeq (sSet 1 (eNew (eLst aNil)))
  (sSeq (sFor (iVal (eMt "str" splitM (eVar 0) (zA0 (eC (.str (PySem.Str.ofString " "))) aNil))) (gName 2) (sSeq (sSet 3 (zAf 1 [] (iVal (eMt "str" splitM (eVar 2) (zA0 (eC (.str (PySem.Str.ofString ","))) aNil))) (gName 0) tYes (zA8 zAe (zA0 (eVar 0) aNil))))
  (sSeq (sIf (tOr (tB (eOp neE (eCB lenB (zA0 (eVar 3) aNil)) (eC (.int 2)))) (tOr (tB (eOp inNN (eC .non) (eVar 3))) (tAnd (tB (eOp neE (eVar 1) (eLst aNil))) (tB (eOp geT (eOp ixD (eVar 1) (eUn negD (eC (.int 1)))) (eCB zB1 (zA0 (eVar 3) aNil))))))) (sRet (eTup (zA0 (eC (.str (PySem.Str.ofString "none"))) aNil))) zAv)
  (zJ0 (eMt "list" zB8 (eVar 1) (zA0 (eCB zB1 (zA0 (eVar 3) aNil)) aNil))))))
  (sRet (eTup (zA0 (eC (.str (PySem.Str.ofString "island"))) (zA0 (eCB zB1 (zA0 (eVar 1) aNil)) aNil)))))))
noncomputable def zB5:Fn:=zAi 1 4 zCm
noncomputable def zHd:SM:=
  (sSeq (sSet 1 (zA8 zA3 (zA0 (eVar 0) (zA0 (eC (.int 2)) aNil))))
  (sSeq (sSet 2 (eC (.str (PySem.Str.ofString " !\"#$&'()*+,-./0123456789:;<=>?@ABCDEFGHIJKLMNOPQRSTUVWXYZ[\\]^_`abcdefghijklmnopqrstuvwxyz{|}~\n"))))
  (sRet (eOp ixD (eLst (zA0 (eOp ixD (eVar 2) (zA8 zA3 (zA0 (eVar 0) (zA0 (eCB lenB (zA0 (eVar 2) aNil)) aNil)))) (zA0 (eOp ixD (eC (.str (PySem.Str.ofString "0123456789,, -."))) (zA8 zA3 (zA0 (eVar 0) (zA0 (eC (.int 15)) aNil)))) aNil))) (eVar 1)))))
noncomputable def zAr:Fn:=zAi 1 3 zHd
noncomputable def zAg:SM:=
  (sSeq (neS (sIf (tB (eOp eqY (eVar 0) (eC (.str (PySem.Str.ofString "."))))) (sRet (eTup aNil)) zAv))
  (sSeq (neS (sSet 1 (eCB zB1 (zA0 (zAf 1 [] (iVal (eMt "str" splitM (eVar 0) (zA0 (eC (.str (PySem.Str.ofString " "))) aNil))) (gName 0) tYes (zA8 zAl (zA0 (eVar 0) (zA0 (eC (.int 2)) (zA0 (eC (.int 19)) aNil))))) aNil))))
  (sSeq (sIf (neR (tOr (tB (eOp inNN (eC .non) (eVar 1))) (tNot (tTru (zA8 zAq (zA0 (eVar 1) aNil)))))) (zKj (mkX 63 (PySem.Str.ofString "row")) (zA0 (eC (.int 0)) aNil)) zAv)
  (neS (sRet (eVar 1))))))
noncomputable def zA9:Fn:=zAi 1 2 zAg
noncomputable def zB7:SM:=
  (sSeq (sPar [2,3] (zA0 (zA8 zA3 (zA0 (eVar 0) (zA0 (eC (.int 7)) aNil))) (zA0 (zA8 zA3 (zA0 (eVar 0) (zA0 (eOp addD (eCB lenB (zA0 (eVar 1) aNil)) (eC (.int 1))) aNil))) aNil)))
  (sSeq (sIf (tB (eOp ltN (eVar 2) (eC (.int 2)))) (sRet (eOp addD (eOp addD (eSl slS (eVar 1) pNo (pYes (eVar 3))) (zA8 zAr (zA0 (eVar 0) aNil))) (eSl slS (eVar 1) (pYes (eVar 3)) pNo))) zAv)
  (sSeq (sIf (tB (eOp eqI (eVar 2) (eC (.int 2)))) (sRet (eOp addD (eSl slS (eVar 1) pNo (pYes (eVar 3))) (eSl slS (eVar 1) (pYes (eOp addD (eVar 3) (eC (.int 1)))) pNo))) zAv)
  (sSeq (sIf (tB (eOp eqI (eVar 2) (eC (.int 3)))) (sRet (eOp addD (eOp addD (eSl slS (eVar 1) pNo (pYes (eVar 3))) (zA8 zAr (zA0 (eVar 0) aNil))) (eSl slS (eVar 1) (pYes (eOp addD (eVar 3) (eC (.int 1)))) pNo))) zAv)
  (sSeq (sIf (tB (eOp eqI (eVar 2) (eC (.int 4)))) (sRet (eOp addD (eOp addD (eSl slS (eVar 1) pNo (pYes (eVar 3))) (eUn revZ (eSl slS (eVar 1) (pYes (eVar 3)) (pYes (eOp addD (eVar 3) (eC (.int 2))))))) (eSl slS (eVar 1) (pYes (eOp addD (eVar 3) (eC (.int 2)))) pNo))) zAv)
  (sSeq (sSet 4 (eMt "str" splitM (eVar 1) (zA0 (eC (.str (PySem.Str.ofString " "))) aNil)))
  (sSeq (sSet 5 (zA8 zA3 (zA0 (eVar 0) (zA0 (eCB lenB (zA0 (eVar 4) aNil)) aNil))))
  (sSeq (sIf (tB (eOp eqI (eVar 2) (eC (.int 5)))) (sRet (eMt "str" joinM (eC (.str (PySem.Str.ofString " "))) (zA0 (eOp addD (eOp addD (eSl slS (eVar 4) pNo (pYes (eVar 5))) (eUn revZ (eSl slS (eVar 4) (pYes (eVar 5)) (pYes (eOp addD (eVar 5) (eC (.int 2))))))) (eSl slS (eVar 4) (pYes (eOp addD (eVar 5) (eC (.int 2)))) pNo)) aNil))) zAv)
  (sRet (eMt "str" joinM (eC (.str (PySem.Str.ofString " "))) (zA0 (eOp addD (eOp addD (eSl slS (eVar 4) pNo (pYes (eVar 5))) (eSl slS (eVar 4) (pYes (eVar 5)) (pYes (eOp addD (eVar 5) (eC (.int 1)))))) (eSl slS (eVar 4) (pYes (eVar 5)) pNo)) aNil)))))))))))
noncomputable def zAm:Fn:=zAi 2 6 zB7
noncomputable def zHc:SM:=
  (sSeq (sSet 1 (eTup (zA0 (eC (.str (PySem.Str.ofString "none"))) aNil)))
  (sSeq (sTry (inC [63]) 1 2 (zMg (neR (eC (.str (PySem.Str.ofString "island")))) (zA8 zA9 (neR (zA0 (eVar 0) aNil)))) (neS (sIf (tAnd (tB (eOp eqI (eFld (inC [63]) (PySem.Str.ofString "row") (eVar 2)) (eC (.int 0)))) (tNot (tTru (eIsX (lkC [(63,false)]) (eVar 2))))) (sSet 1 (eTup (zA0 (eC (.str (PySem.Str.ofString "refused"))) (zA0 (eAnd (eIsX (lkC [(63,true)]) (eVar 2)) (eIsX (lkC [(63,true)]) (eVar 2))) aNil)))) zAv)))
  (sRet (eVar 1))))
noncomputable def zBz:Fn:=zAi 1 3 zHc
noncomputable def zG9:SM:=
  (sSeq (sSet 1 (zA8 zB5 (zA0 (eVar 0) aNil)))
  (sSeq (sIf (tB (eOp eqY (eVar 1) (eTup (zA0 (eC (.str (PySem.Str.ofString "none"))) aNil)))) (sSet 1 (eTup (zA0 (eC (.str (PySem.Str.ofString "refused"))) (zA0 (eC (.bl true)) aNil)))) zAv)
  (sRet (eOp eqY (zA8 zBz (zA0 (eVar 0) aNil)) (eVar 1)))))
noncomputable def zAw:Fn:=zAi 1 2 zG9
noncomputable def zV2:SM:=
  (sSeq (sSet 1 (zA8 zC0 (zA0 (eVar 0) (zA0 (eC (.int 0)) aNil))))
  (sSeq (sSet 2 (eOp zGv (eOp addD (zA8 zA3 (zA0 (eVar 1) (zA0 (eC (.int 8)) aNil))) (eC (.int 4))) (eC (.int 5))))
  (sSeq (sSet 3 (eNew (eLst aNil)))
  (sSeq (sFor (zFo (zA0 (zA8 zA3 (zA0 (eVar 1) (zA0 (eC (.int 9)) aNil))) aNil)) (gName 4) (sSeq (sSet 5 (eOp ixD (eLst (zA0 (eC (.int 1)) (zA0 (eC (.int 12)) (zA0 (eOp powD (eC (.int 10)) (eC (.int 4))) (zA0 (eOp mulE (eC (.int 2)) (eOp powD (eC (.int 10)) (eC (.int 19)))) aNil))))) (zA8 zA3 (zA0 (eVar 1) (zA0 (eC (.int 4)) aNil)))))
  (zJ0 (eMt "list" zB8 (eVar 3) (zA0 (eTup (zA0 (eOp subD (zA8 zA3 (zA0 (eVar 1) (zA0 (eOp addD (eOp mulE (eC (.int 2)) (eVar 5)) (eC (.int 1))) aNil))) (eVar 5)) (zA0 (eOp subD (zA8 zA3 (zA0 (eVar 1) (zA0 (eOp addD (eOp mulE (eC (.int 2)) (eVar 5)) (eC (.int 1))) aNil))) (eVar 5)) aNil))) aNil)))))
  (sSeq (sSet 6 (eMt "str" joinM (eC (.str (PySem.Str.ofString " "))) (zA0 (eOp addD (zAf 2 [] (iVal (eUn ssK (eVar 3))) (gTup [(gName 0),(gName 1)]) tYes (eOp addD (eOp addD (eCB strI (zA0 (eVar 0) aNil)) (eC (.str (PySem.Str.ofString ",")))) (eCB strI (zA0 (eVar 1) aNil)))) (eOp mulE (eLst (zA0 (eC (.str (PySem.Str.ofString "."))) aNil)) (eCB intB (zA0 (eOp eqE (eVar 3) (eLst aNil)) aNil)))) aNil)))
  (sSeq (sSet 7 (eVar 6))
  (sSeq (sFor (zFo (zA0 (eVar 2) aNil)) (gName 4) (sSet 6 (zA8 zAm (zA0 (eVar 1) (zA0 (eVar 6) aNil)))))
  (sRet (eAnd (zA8 zAw (zA0 (eVar 7) aNil)) (eAnd (zA8 zAw (zA0 (eVar 6) aNil)) (zA8 zAw (zA0 (eVar 7) aNil))))))))))))
noncomputable def zJg:Fn:=zAi 1 8 zV2
end
end DP
namespace L2
open PySem PySem.Spec PyProof.Rows
open DS (D Store Exn Rs SR)
section
variable {X:Cx}{K:PySem.W.Frag}
theorem zXd:OpR X (compareOp .Eq) (r2Of K DS.eqI):=by
 intro pins s σ H x y v u Q I rx ry hq30
 obtain⟨J,S,d1,d2,d,ha,r1,r2,e,k⟩:=hq30
 unfold DS.eqI at e
 split at e
 ·cases e
  obtain rfl:=r1
  obtain rfl:=r2
  obtain⟨t,rfl⟩:=rx
  obtain⟨t',rfl⟩:=ry
  exact eq_int ⟨.bl _,H,I,rfl,k _ H ha .refl rfl⟩
 ·cases e
end
end L2
namespace L2
open PySem PySem.Spec PyProof.Rows EK
open DS (D Store Exn Rs SR lv)
section
open Classical
variable {X:Cx}{K:PySem.W.Frag}{J:Js}{S:Store}{H:Hp}{d1 d2:D}
theorem A2.at {α β:Type}{R:α->β->Prop}{l:List α}{m:List β}(h:A2 R l m):∀(i:Nat) (b:β),m[i]?=some b->∃a,l[i]?=some a/\R a b:=by
 induction h with
 | nil=>intro i b e;cases e
 | cons r _ ih=>
  intro i b e
  cases i with
  | zero=>cases e;exact⟨_,rfl,r⟩
  | succ i=>exact ih i b e
theorem zRd {l m:List D}:((List.range (min l.length m.length)).all (fun j=>decide (l[j]?=m[j]?)) && l.length == m.length)=decide (l=m):=by
 by_cases c:l=m
 ·subst c;simp
 ·rw[xl c]
  refine uD.mpr fun z=>c ?_
  rw[xm,xO]at z
  have hl:l.length=m.length:=by simpa using z.2
  refine List.ext_getElem? fun i=>?_
  by_cases hi:i<l.length
  ·exact uQ (z.1 i (vy.mpr (by nofun)))
  ·rw[vC (by nofun),vC (by nofun)]
theorem zQi (hu:X.A.units+64<cLine) (hK:X.K=K:=by rfl):OpR X (compareOp .NotEq) (r2Of K DS.neK):=by
 subst hK
 intro pins s σ H x y v u Q I rx ry hq31
 obtain⟨J,S,d1,d2,d,ha,r1,r2,e,k⟩:=hq31
 unfold DS.neK at e
 split at e
 ·cases e
  obtain rfl:=r1
  obtain rfl:=r2
  obtain⟨t,rfl⟩:=rx
  obtain⟨t',rfl⟩:=ry
  exact ne_int ⟨.bl _,H,I,rfl,k _ H ha .refl rfl⟩
 ·cases e
  obtain rfl:=r1
  obtain rfl:=r2
  cases rx
  cases ry
  exact SeqAt.RcNeAt.bool_bool _ _ _ _ _ _ ⟨.bl _,H,I,by rw[Bool.beq_eq_decide_eq];exact rfl,k _ H ha .refl rfl⟩
 ·cases e
  obtain rfl:=r1
  obtain rfl:=r2
  obtain⟨t,rfl⟩:=rx
  obtain⟨t',rfl⟩:=ry
  exact SeqAt.RcNeAt.str_str _ _ _ _ _ _ _ _ ⟨.bl _,H,I,rfl,k _ H ha .refl rfl⟩
 ·rename_i l m
  split at e
  ·rename_i hs
   cases e
   obtain⟨n,hn,hl⟩:=hs
   obtain⟨a,xs,rfl,t1,q1⟩:=r1
   obtain⟨b,ys,rfl,t2,q2⟩:=r2
   cases rx
   cases ry
   obtain⟨its,va,ta,_⟩:=I.tuple t1.sq
   obtain⟨jts,vb,tb,_⟩:=I.tuple t2.sq
   have al:=zIc I (fun d hd=>hl d (vQ _ hd)) q1 va
   have bl:=zIc I (fun d hd=>hl d (xT _ hd)) q2 vb
   refine SeqAt.RcNeAt.tuples (e:=fun j=>decide (l[j]?=m[j]?)) (ta) (tb) (by nofun) (fun j h1 h2=>?_) _ _ _ _ ?_
   ·simp only[xu]at h1 h2
    simp only[List.getElem_toArray]
    obtain⟨d,ed,rd⟩:=A2.at al j _ (xC h1)
    obtain⟨d',ed',rd'⟩:=A2.at bl j _ (xC h2)
    rw[ed,ed',show decide (some d=some d')=decide (d=d')from xS.mpr ⟨xD,fun z=>by rw[z]⟩]
    exact fun prog w E Q hq=>zGw n rd rd' (by show X.A.units+1+n<cLine;lia) hq
   ·simp only[xu]
    rw[<- al.length,<- bl.length,zRd]
    exact⟨.bl _,H,I,rfl,k _ H ha .refl rfl⟩
  ·cases e
 ·cases e
end
end L2
namespace L2
open PySem PySem.Spec PyProof.Rows EK TU
open TS (sObj zDf adr ordW zC3 zB9 zGf Tab.ft)
open DS (D Store Exn Rs SR lv srt dedup)
section
variable {X:Cx}{K:PySem.W.Frag}{E:XE}{J:Js}{S:Store}{H:Hp}{d d1 d2:D}{v:V}{pins:List (Addr × Obj)}{σ:St}{s:Shared}
theorem zTh {A:Around}{EE:Value->Shared->Prop}{dp:Nat}{l:List D}{a:Addr}{ys:List V}{Q:Value->Shared->Prop}(I:Inv X pins σ H s) (hh:A.handled=none) (hu:A.units+20<cLine) (hq:Rd H a (.lst ys)) (rl:RepL K J H l ys) (hdp:dp+1<=6) (hl:∀x∈l,lv (dp+1) x) (hz:l.length<=1199)
  (h:∀(h':Heap) (tk:Nat) (es:Array (Int × Value)) (κ:Addr->D),IsS dp κ h' s.heap.objs.size es (zDf X.w)->es.size<=l.length->SGood K J H κ es l->(∀b o,s.heap.get? b=some o->h'.get? b=some o)->Q (.ref s.heap.objs.size) { s with heap:=h',toks:=tk }):
  wpAny (model X.prog X.w) A (call (.type "set") [.ref a]) Q EE s:=by
 obtain⟨z,its,c,rv,_,ho⟩:=I.lstR hq
 have hk:=zIc I hl rl rv
 have key:∀u∈its,∃b d x,u=.ref b/\d∈l/\kd s.heap (dp+1) (.ref b)=d/\Ek s.heap (dp+1) d (.ref b)/\Rep K J H d x/\RelV x u:=fun u hm=>by
  obtain⟨d,x,md,rx,rq⟩:=zS3 rl rv u hm
  have q:=zEt I (dp+1) (hl d md) rx rq
  have q0:=q
  obtain⟨ds,b,ob,items,k,rfl,rfl,_⟩:=q
  exact⟨b,_,x,rfl,md,zGr q0,q0,rx,rq⟩
 have post:∀(h':Heap) (tk:Nat) (es:Array (Int × Value)),IsS dp (fun b=>kd s.heap (dp+1) (.ref b)) h' s.heap.objs.size es (zDf X.w)->es.size<=its.toArray.size->(∀e∈es.toList,e.2∈its.toArray.toList)->(∀v∈its.toArray.toList,∃e∈es.toList,kv (fun b=>kd s.heap (dp+1) (.ref b)) e=(fun b=>kd s.heap (dp+1) (.ref b)) (adr v))->
   (∀b o,b<s.heap.objs.size->s.heap.get? b=some o->h'.get? b=some o)->Q (.ref s.heap.objs.size) { s with heap:=h',toks:=tk }:=fun h' tk es i1 z1 m1 cv k1=>by
  refine h h' tk es _ i1 (by rw[hk.length];simpa using z1) ⟨fun d=>?_,fun e he=>?_⟩ fun b o e=>k1 b o (xj e) e
  ·constructor
   ·intro hm
    obtain⟨e,he,rfl⟩:=xB.mp hm
    obtain⟨b,d,x,eb,md,ek,_,_,_⟩:=key e.2 (by simpa using m1 e he)
    unfold kv
    rw[eb]
    show kd s.heap (dp+1) (.ref b)∈l
    rw[ek];exact md
   ·intro hm
    obtain⟨u,hu',q⟩:=hk.mem_l d hm
    obtain⟨e,he,ek⟩:=cv u (by simpa using hu')
    refine xB.mpr ⟨e,he,ek.trans ?_⟩
    have q0:=q
    obtain⟨ds,b,ob,items,k,rfl,rfl,_⟩:=q
    exact zGr q0
  ·obtain⟨b,d,x,eb,md,ek,_,rx,rq⟩:=key e.2 (by simpa using m1 e he)
   refine⟨x,?_,rq⟩
   unfold kv
   rw[eb]
   show Rep K J H (kd s.heap (dp+1) (.ref b)) x
   rw[ek];exact rx
 have kk:∀v∈its.toArray.toList,∃b,v=.ref b/\EA s.heap dp (kd s.heap (dp+1) (.ref b)) b:=fun v hv=>by
  obtain⟨b,d,x,eb,md,ek,q,_,_⟩:=key v (by simpa using hv)
  exact⟨b,eb,by rw[ek];exact q⟩
 have sz:its.toArray.size<=1199:=by simpa[<- hk.length]using hz
 exact zNt hh ⟨_,ho,rfl,c,rfl⟩ (by nofun) hu sz kk post
end
section
variable {X:Cx}{K:PySem.W.Frag}{E:XE}
theorem zZ1 {e:Expr}{m:DS.EM}{p p2 pos pos2:Pos}(hc:X.calm=true) (hu:X.A.units+64<cLine) (he:DE X K E e m) (hgs:Gl X "sorted") (hms:X.mg "sorted"=none) (hgt:Gl X "set") (hmt:X.mg "set"=none) (h:nst e=true:=by rfl) (hK:X.K=K:=by rfl):
  DF X K E (.Call (.Name "sorted" p) [.Call (.Name "set" p2) [e] [] pos2] [] pos) (DS.eUn DS.ssK m):=by
 subst hK
 refine⟨⟨fun pins s σ H Q I hq1=>?_⟩⟩
 obtain⟨env,S,J,ha,hE,q⟩:=hq1
 have hs:starEach [e] X.env=[(false,eval e X.env)]:=zAo h
 have hs2:starEach [Expr.Call (.Name "set" p2) [e] [] pos2] X.env=[(false,eval (.Call (.Name "set" p2) [e] [] pos2) X.env)]:=rfl
 refine vE (zC6 I hgs hms PyProof.Rows.boot_sorted (PyProof.Rows.callWith_builtin1 ?_ hs2 rfl))
 rw[hs2]
 refine(uc ?_)
 refine vE (zC6 I hgt hmt PyProof.Rows.boot_set (uu ?_ hs rfl))
 rw[hs]
 refine(uc ?_)
 refine thn (he.h.h pins s σ H (fun x H1=>∃J1 S1 d0 d,AbS X.K J1 S1 H1/\Rep X.K J1 H1 d0 x/\DS.ssK S1 d0=some d/\∀p o,H1 p=none->ObD X.K J1 H1 d o->Q (.ref p) (upd H1 p o)) I ⟨env,S,J,ha,hE,q.bind.imp fun d0 S1 J1 H1 _ a1 g1 q1 x rx=>?_⟩) fun v s1 hq1=>?_
 ·obtain⟨c,ec,k⟩:=q1.lift
  exact⟨J1,S1,d0,c,a1,rx,ec,k J1 H1 a1 .refl⟩
 ·obtain⟨x,H1,I1,r1,J1,S1,d0,d,a1,rx,ed,k⟩:=hq1
  refine uw ?_
  unfold DS.ssK at ed
  cases e1:DS.litems S1 d0 with
  | none=>rw[e1]at ed;cases ed
  | some l=>
   rw[e1]at ed
   dsimp only at ed
   split at ed
   ·rename_i hs
    cases ed
    obtain⟨hz,n,hn,hl⟩:=hs
    obtain⟨a,ys,rfl,hq,q⟩:=zBb a1 rx e1
    cases r1
    refine zTh I1 (I.ok.hd hc) (by nofun) hq q hn hl (by nofun) fun h1 tk1 es κ i1 z1 g1 k1=>uw ?_
    refine zRp I1 (I.ok.hd hc) (by nofun) i1.wk hn k1 rfl (xh _) (by nofun) g1 hl fun L zs hL r=>k L _ hL ⟨zs,rfl,r⟩
   ·cases ed
end
end L2
namespace L2
open PySem PySem.Spec PyProof.Rows EK
open DS (D Store Exn Rs SR lv)
section
open Classical
variable {X:Cx}{K:PySem.W.Frag}{E:XE}{J:Js}{S:Store}{H:Hp}
theorem zEd:∀{ys:List Str}{xs:List V},RepL K J H (ys.map D.str) xs->xs=ys.map V.str
 | [],xs,h=>by cases h;rfl
 | y::ys,xs,h=>by
  obtain⟨x,r,rfl,hx,hr⟩:=h
  obtain rfl:=hx
  rw[zEd hr]
  rfl
theorem zHl:∀(ys:List Str),RepL K J H (ys.map D.str) (ys.map V.str)
 | []=>rfl
 | y::ys=>⟨.str y,ys.map V.str,rfl,rfl,zHl ys⟩
theorem zLj:MtR X "str.startswith" (mOf K DS.startM):=by
 intro pins s σ H x xs v us Q I rx rs hq
 obtain⟨J,S,d1,ds,d,S',ha,r1,rl,e,k⟩:=hq
 unfold DS.startM at e
 split at e
 ·cases e
  obtain⟨y,rfl,ry⟩:=zBa (ds:=[]) rl
  obtain rfl:=r1
  obtain rfl:=ry
  exact zEi pins s σ H _ _ v us Q I rx rs ⟨_,_,rfl,rfl,k _ H ha .refl rfl⟩
 ·cases e
theorem zLk:MtR X "str.split" (mOf K DS.splitM):=by
 intro pins s σ H x xs v us Q I rx rs hq
 obtain⟨J,S,d1,ds,d,S',ha,r1,rl,e,k⟩:=hq
 unfold DS.splitM at e
 split at e
 ·split at e
  ·rename_i h
   cases e
   obtain⟨y,rfl,ry⟩:=zBa (ds:=[]) rl
   obtain rfl:=r1
   obtain rfl:=ry
   exact zOu pins s σ H _ _ v us Q I rx rs ⟨_,_,rfl,rfl,h.1,h.2.1,h.2.2,fun l n=>k _ _ (ha.push n) (.push n) ⟨l,_,rfl,⟨zA5,ha.out n⟩,zHl _⟩⟩
  ·cases e
 ·cases e
theorem zOv (hK:X.K=K:=by rfl):MtR X "str.join" (mOf K DS.joinM):=by
 subst hK
 intro pins s σ H x xs v us Q I rx rs hq
 obtain⟨J,S,d1,ds,d,S',ha,r1,rl,e,k⟩:=hq
 unfold DS.joinM at e
 split at e
 ·rename_i sep d0
  obtain⟨y,rfl,ry⟩:=zBa (ds:=[]) rl
  obtain rfl:=r1
  split at e
  ·rename_i ys e1
   split at e
   ·rename_i h
    cases e
    split at e1
    ·rename_i l e2
     have el:=DS.zCv e1
     obtain⟨b,zs,rfl,hq,q⟩:=zCk ha ry e2
     rw[el]at q
     obtain rfl:=zEd q
     exact zTg rfl pins s σ H _ _ v us Q I rx rs ⟨_,_,_,rfl,rfl,hq,h.1,h.2,k _ H ha .refl rfl⟩
    ·cases e1
   ·cases e
  ·cases e
 ·cases e
theorem zN1:zAu X (.type "str") (cOf K DS.strI):=by
 intro pins s σ H xs us Q I r hq
 obtain⟨J,S,ds,d,ha,rl,e,k⟩:=hq
 unfold DS.strI at e
 split at e
 ·split at e
  ·rename_i h
   cases e
   obtain⟨x,rfl,rx⟩:=zBa (ds:=[]) rl
   obtain rfl:=rx
   exact zFw pins s σ H _ us Q I r ⟨_,rfl,h,k _ H ha .refl rfl⟩
  ·cases e
 ·cases e
theorem zJq:zAu X (.type "int") (cOf K DS.intS):=by
 intro pins s σ H xs us Q I r hq
 obtain⟨J,S,ds,d,ha,rl,e,k⟩:=hq
 unfold DS.intS at e
 split at e
 ·split at e
  ·rename_i n e1
   split at e
   ·rename_i h
    cases e
    obtain⟨x,rfl,rx⟩:=zBa (ds:=[]) rl
    obtain rfl:=rx
    exact zN4 pins s σ H _ us Q I r ⟨_,n,rfl,e1,h,k _ H ha .refl rfl⟩
   ·cases e
  ·cases e
 ·cases e
end
end L2
namespace L2
open PySem PySem.Spec PyProof.Rows EK
open DS (D Store Exn Rs SR lv)
section
open Classical
variable {X:Cx}{K:PySem.W.Frag}{E:XE}{J:Js}{S:Store}{H:Hp}
theorem zIs {a:Str}:∀{ys:List Str}{us:List Value},Vals (ys.map V.str) us->(us.any fun v=>match v with|.str y _=>decide (y=a)|_=>false)=decide (a∈ys)
 | [],_,.nil=>by simp
 | y::ys,_,.cons ⟨t,e⟩ r=>by
  subst e
  rw[List.any_cons,zIs r]
  by_cases h:y=a
  ·simp[h]
  ·have:¬ a=y:=fun z=>h z.symm
   simp[h,this]
theorem zL9 (hu:X.A.units+64<cLine) (hK:X.K=K:=by rfl):OpR X (compareOp .NotIn) (r2Of K DS.zFh):=by
 subst hK
 intro pins s σ H x y v u Q I rx ry hq
 obtain⟨J,S,d1,d2,d,ha,r1,r2,e,k⟩:=hq
 unfold DS.zFh at e
 cases e0:DS.inTO S d1 d2 with
 | none=>rw[e0]at e;cases e
 | some b=>
  rw[e0]at e
  cases e
  unfold DS.inTO at e0
  split at e0
  ·rename_i a l
   split at e0
   ·rename_i ys e1
    cases e0
    have el:=DS.zCv e1
    subst el
    obtain rfl:=r1
    obtain⟨p,xs,rfl,t1,q1⟩:=r2
    obtain rfl:=zEd q1
    obtain⟨t,rfl⟩:=rx
    cases ry
    obtain⟨its,r,pl,hz⟩:=I.tuple t1.sq
    refine SeqAt.notIn_tupleAt (fun v=>match v with|.str y _=>decide (y=a)|_=>false) pl (fun y hy=>?_) ⟨.bl (!decide (a∈ys)),H,I,?_,k _ H ha .refl rfl⟩
    ·obtain⟨i,hi,e⟩:=vV.mp (show y∈its from by simpa using hy)
     have hl:=r.length
     obtain⟨u,hu,ru⟩:=r.get (xC (show i<(ys.map V.str).length by nofun))
     rw[xC hi]at hu
     cases hu
     rw[List.getElem_map]at ru
     obtain⟨t',e'⟩:=ru
     rw[<- e,e']
     exact fun _ _ _ _ h=>wpAny_eqBool_str h
    ·show Value.bool _=Value.bool _
     rw[<- zIs r]
     simp
   ·cases e0
  ·rename_i a b
   cases e0
   obtain rfl:=r1
   obtain rfl:=r2
   exact zFg pins s σ H _ _ v u Q I rx ry ⟨a,b,rfl,rfl,k _ H ha .refl rfl⟩
  ·cases e0
end
end L2
namespace EK
open PySem PyProof.Rows PySem.W
open DS (D blt bltL zAd)
open Classical
section
variable {prog:Program}{w:World}
theorem yAw {d d':D}{a b:Addr}{A:Around}{E:Value->Shared->Prop}{s:Shared}{Q:Value->Shared->Prop}(hx:Ek s.heap 1 d (.ref a)) (hy:Ek s.heap 1 d' (.ref b)) (hu:A.units+2<cLine) (h:Q (.bool (!blt d d')) s):wpAny (model prog w) A (richCompare .GtE (.ref a) (.ref b)) Q E s:=by
 have hx0:=hx
 have hy0:=hy
 obtain⟨ds,a',oa,xs,ka,rfl,ea,hoa,hca,hda,ra⟩:=hx
 cases ea
 obtain⟨es,b',ob,ys,kb,rfl,eb,hob,hcb,hdb,rb⟩:=hy
 cases eb
 refine yg hx0.typeIs hy0.typeIs PySem.F.slot_tuple_ge ?_ (by nofun)
 refine xW PySem.F.slot_tuple_ge hx0.typeIs PySem.F.entry_tuple_ge ?_ (PySem.F.args_tuple_ge_2 _ _)
 rw[blt]at h
 show wpAny _ _ (isInstance (.ref b) (.type "tuple") >>= _) _ _ s
 refine xa (vU hy0.typeIs ye ?_)
 simp only[vO,xP,xK]
 refine xa (uo hoa hda (xa (uo hob hdb (xa ?_))))
 refine v7 _ (fun rest r s'=>r.1=none/\s'=s/\∃(x' y':List D) (xs' ys':List Value),rest=List.zip xs' ys'/\A2 (Ek s.heap 0) x' xs'/\A2 (Ek s.heap 0) y' ys'/\bltL x' y'=bltL ds es/\decide (xs'.length<ys'.length)=decide (xs.size<ys.size)) _ ?_ ?_ _ _ ⟨rfl,rfl,ds,es,xs.toList,ys.toList,rfl,ra,rb,rfl,by simp⟩
 ·rintro⟨u,v⟩ rest r s' ⟨hr,rfl,x',y',xs',ys',hz,hx',hy',hdec,hlen⟩
  cases hx' with
  | nil=>simp at hz
  | @cons k1 u' x'' xs'' h1 hx''=>
   cases hy' with
   | nil=>simp at hz
   | @cons k2 v' y'' ys'' h2 hy''=>
    simp only[vZ,List.cons.injEq,Prod.mk.injEq]at hz
    obtain⟨⟨rfl,rfl⟩,rfl⟩:=hz
    refine xa (zGw 0 h1 h2 (by show A.units+1+0<cLine;lia) ?_)
    rw[zAd]at hdec
    by_cases hk:k1=k2
    ·subst hk
     rw[xc rfl]at hdec
     rw[xo rfl]
     simp only[vO,xP,xK]
     exact xg ⟨rfl,rfl,x'',y'',xs'',ys'',rfl,hx'',hy'',hdec,by simpa using hlen⟩
    ·rw[xf hk]at hdec
     rw[xl hk]
     simp only[Bool.not_false,xn]
     obtain⟨i,t,e1,e2⟩:=h1
     obtain⟨j,t',e3,e4⟩:=h2
     subst e1 e2 e3 e4
     rw[blt]at hdec
     refine xa (vg (xa (show wpAny _ _ (compareOp .GtE (.int i t) (.int j t')) _ _ _ from ge_int ?_)))
     refine xa (xg (xg (xg ⟨_,rfl,(fun e=>nomatch e),?_⟩)))
     rw[<- hdec]at h
     rw[show decide (j<=i)=!decide (i<j) by rw[<- decide_not];exact xS.mpr (by nofun)]
     exact h
 ·rintro⟨r1,r2⟩ s' ⟨hr,rfl,x',y',xs',ys',hz,hx',hy',hdec,hlen⟩
  simp only at hr
  subst hr
  have hfin:(!bltL ds es)=decide (xs.size >= ys.size):=by
   rw[<- hdec,show decide (xs.size >= ys.size)=!decide (xs.size<ys.size) by rw[<- decide_not];exact xS.mpr (by nofun),<- hlen]
   congr 1
   cases hx' with
   | nil=>
    cases hy' with
    | nil=>rw[bltL];rfl
    | cons _ _=>rw[bltL];simp
   | cons _ _=>
    cases hy' with
    | nil=>rw[bltL];simp
    | cons _ _=>simp at hz
  rw[hfin]at h
  exact xg ⟨_,rfl,(fun e=>nomatch e),h⟩
end
end EK
namespace L2
open PySem PySem.Spec PyProof.Rows EK
open DS (D Store Exn Rs SR lv)
section
open Classical
variable {X:Cx}{K:PySem.W.Frag}{E:XE}{J:Js}{S:Store}{H:Hp}
theorem sRan {A B:Int}{a b:Nat}(ha:A=a) (hb:B=b):sliceRange A B 1=(List.range (b-a)).map fun k=>a+k:=by
 subst ha hb
 unfold sliceRange
 rw[xc (by decide)]
 by_cases c:a<b
 ·rw[xc (by nofun)]
  have e2:(((b:Int)-a+1-1) / 1).toNat=b-a:=by nofun
  dsimp only
  rw[e2]
  exact List.map_congr_left fun k _=>by nofun
 ·rw[xf (by nofun),show b-a=0 by nofun]
  rfl
theorem zEz {n:Nat}{i:Int}(h:0<=i):(if(1:Int) > 0 then max 0 (min (if i<0 then i+(n:Int)else i) (n:Int))else max (-1) (min (if i<0 then i+(n:Int)else i) ((n:Int)-1)))=(DS.sIx n 0 (some i):Nat):=by
 rw[xc (by decide),xf (by nofun)]
 unfold DS.sIx
 dsimp only
 rw[xf (by nofun)]
 lia
theorem sIx_le {n d:Nat}{o:Option Int}(hd:d<=n) (h:∀v,o=some v->0<=v):DS.sIx n d o<=n:=by
 cases o with
 | none=>exact hd
 | some v=>
  have:=h v rfl
  unfold DS.sIx
  dsimp only
  rw[xf (by nofun)]
  lia
theorem zGi (z:Str) (l u:Option (Int × Tok)) (hl:∀v,l.map (·.1)=some v->0<=v) (hu:∀v,u.map (·.1)=some v->0<=v):∃a b,a=DS.sIx z.length 0 (l.map (·.1))/\b=DS.sIx z.length z.length (u.map (·.1))/\a<=z.length/\b<=z.length/\slicePicked z l u none=(List.range (b-a)).map fun k=>a+k:=by
 refine⟨_,_,rfl,rfl,sIx_le (by nofun) hl,sIx_le (by nofun) hu,?_⟩
 cases l with
 | none=>cases u with
  | none=>exact sRan rfl rfl
  | some u=>exact sRan rfl (zEz (hu u.1 rfl))
 | some l=>cases u with
  | none=>exact sRan (zEz (hl l.1 rfl)) rfl
  | some u=>exact sRan (zEz (hl l.1 rfl)) (zEz (hu u.1 rfl))
theorem zFf (c:List Nat) (a:Nat):∀m,a+m<=c.length->((List.range m).map fun k=>a+k).filterMap (c.toArray[·]?)=(c.drop a).take m
 | 0,_=>by simp
 | m+1,h=>by
  have hz:a+m<c.length:=by nofun
  rw[List.range_succ,vk,List.filterMap_append,zFf c a m (by nofun),List.take_succ]
  congr 1
  simp[hz]
theorem sl_S (hK:X.K=K:=by rfl):SlR X (slOf K DS.slS):=by
 intro pins s σ H x v vl vu lo hi sl Q I rx hs pl pu hq
 obtain⟨J,S,d1,d,ha,r1,e,k⟩:=hq
 unfold DS.slS at e
 split at e
 ·split at e
  ·rename_i z h
   cases e
   obtain rfl:=r1
   obtain⟨t,rfl⟩:=rx
   obtain⟨l,el,rfl⟩:∃l:Option (Int × Tok),l.map (·.1)=lo/\vl=partValue l:=by
    cases pl with
    | none=>exact⟨none,rfl,rfl⟩
    | int i tk=>exact⟨some (i,tk),rfl,rfl⟩
   obtain⟨u,eu,rfl⟩:∃l:Option (Int × Tok),l.map (·.1)=hi/\vu=partValue l:=by
    cases pu with
    | none=>exact⟨none,rfl,rfl⟩
    | int i tk=>exact⟨some (i,tk),rfl,rfl⟩
   subst el eu
   obtain⟨a,b,ea,eb,za,zb,ep⟩:=zGi z l u h.1 h.2.1
   have lz:z.cps.toList.length=z.length:=by simp[Str.length]
   refine⟨"str",_,PySem.F.slot_str_getitem.lookup,typeIs_str s z t,wpAny_getItem_str_slice (l:=l) (u:=u) (st:=none) hs rfl ?_⟩
   have ec:(⟨(DS.cutL z.cps.toList (l.map (·.1)) (u.map (·.1))).toArray⟩:Str)=⟨(((List.range (b-a)).map fun k=>a+k).filterMap (z.cps[·]?)).toArray⟩:=by
    unfold DS.cutL
    rw[lz,<- ea,<- eb]
    by_cases c:a<=b
    ·have:=zFf z.cps.toList a (b-a) (by nofun)
     simp only[Array.toArray_toList]at this
     rw[this]
    ·rw[show b-a=0 by nofun];simp
   rw[ec]at k
   unfold sliceMade
   rw[ep]
   split
   ·rename_i c
    simp only[xm,xQ,xq,uh]at c
    have e0:(⟨(((List.range (b-a)).map fun k=>a+k).filterMap (z.cps[·]?)).toArray⟩:Str)=z:=by
     rw[<- ec]
     unfold DS.cutL
     rw[lz,<- ea,<- eb]
     have c2:=c.2
     rcases Nat.eq_zero_or_pos a with h0|h0
     ·rw[h0,List.drop_zero,vW (by nofun)]
     ·have:z.length=0:=by nofun
      have z0:z.cps.toList=[]:=List.length_eq_zero_iff.mp (by rw[lz];exact this)
      rw[z0]
      show(⟨(List.take _ (List.drop _ [])).toArray⟩:Str)=z
      simp only[List.drop_nil,List.take_nil]
      cases z
      simpa using z0.symm
    rw[e0]at k
    exact⟨.str _,H,I,⟨t,rfl⟩,k _ H ha .refl rfl⟩
   ·refine⟨?_,⟨.str _,H,I.tok _,⟨_,rfl⟩,k _ H ha .refl rfl⟩⟩
    show(((List.range (b-a)).map fun k=>a+k).filterMap (z.cps[·]?)).toArray.size<=_
    rw[xZ]
    have:=List.length_filterMap_le (z.cps[·]?) ((List.range (b-a)).map fun k=>a+k)
    simp only[xq,uh]at this
    rw[xu]
    lia
  ·cases e
 ·exact sl_D hK pins s σ H x v vl vu lo hi sl Q I rx hs pl pu ⟨J,S,d1,d,ha,r1,e,k⟩
section
variable {e:Expr}{m:DS.EM}{p2 pos:Pos}
theorem zUs {stp:Expr}{m2:DS.EM}(he:DE X K E e m) (h2:DE X K E stp m2) (e2:∀env S,m2 env S=.ok (.int (-1)) S:=by intros;rfl) (hK:X.K=K:=by rfl):DE X K E (.Subscript e (.Slice none none (some stp) p2) pos) (DS.eUn DS.revZ m):=by
 subst hK
 refine⟨⟨fun pins s σ H Q I hq1=>?_⟩⟩
 obtain⟨env,S,J,ha,hE,q⟩:=hq1
 refine Subscript_ (thn (he.h.h pins s σ H (fun x H1=>∃J1 S1 d0 d,AbS X.K J1 S1 H1/\RepE X.K J1 H1 env σ/\Rep X.K J1 H1 d0 x/\DS.revZ S1 d0=some d/\∀v H',AbS X.K J1 S1 H'->Grow J1 H1 J1 H'->Rep X.K J1 H' d v->Q v H') I ⟨env,S,J,ha,hE,q.bind.imp fun d0 S1 J1 H1 _ a1 g1 q1 x rx=>?_⟩) fun v s1 hq1=>?_)
 ·obtain⟨c,ec,k⟩:=q1.lift
  exact⟨J1,S1,d0,c,a1,hE.grow g1,rx,ec,fun v H' h1 h2 h3=>k J1 H' h1 h2 v h3⟩
 ·obtain⟨x,H1,I1,r1,J1,S1,d0,d,a1,hE1,rx,ed,k⟩:=hq1
  have n1:∀(s:Shared) (R:Value->Shared->Prop),R .none s->wpAny (model X.prog X.w) X.A (evalPart none X.env) R X.xe s:=fun s R h=>by rw[evalPart_none];exact xg h
  refine wpAny_Slice (n1 _ _ (n1 _ _ ?_))
  rw[evalPart_some]
  refine thn (h2.h.h pins s1 σ H1 (fun y H2=>y=.int (-1)/\H2=H2/\∃g:Grow J1 H1 J1 H2,AbS X.K J1 S1 H2) I1 ⟨env,S1,J1,a1,hE1,?_⟩) fun u s2 hq1=>?_
  ·rw[e2]
   exact fun J' H' h1 g v rv=>⟨rv,rfl,by
    have ej:J'=J1:=by
     have:=g.take a1
     rw[<- h1.len]at this
     simpa using this
    subst ej
    exact⟨g,h1⟩⟩
  obtain⟨y,H2,I2,r2,ey,_,g2,a2⟩:=hq1
  subst ey
  obtain⟨t,rfl⟩:=r2
  have I4:Inv X pins σ H2 { s2 with heap:=s2.heap.push { cls:=.type "slice",data:=.fields #[.none,.none,.int (-1) t] } }:=I2.kept fun b ob q=>xi _ q
  have hs:(s2.heap.push { cls:=.type "slice",data:=.fields #[.none,.none,.int (-1) t] }).IsSliceOf s2.heap.objs.size .none .none (.int (-1) t):=Heap.IsSliceOf.new ..
  have rx2:=Rep.grow g2 _ _ rx
  have k2:∀v H',AbS X.K J1 S1 H'->Grow J1 H2 J1 H'->Rep X.K J1 H' d v->Q v H':=fun v H' h1 h2 h3=>k v H' h1 (g2.trans h2) h3
  refine(?_)
  unfold DS.revZ at ed
  split at ed
  ·rename_i z
   split at ed
   ·rename_i hz
    cases ed
    obtain rfl:=rx2
    obtain⟨t2,rfl⟩:=r1
    have hr:=step_rev_list z t
    have lz:z.cps.toList.length=z.length:=by simp[Str.length]
    have er:(⟨z.cps.toList.reverse.toArray⟩:Str)=⟨((slicePicked z none none (some (-1,t))).filterMap (z.cps[·]?)).toArray⟩:=by
     congr 2
     have e3:(slicePicked z none none (some (-1,t)))=(List.range z.length).map fun k=>z.length-1-k:=picked_rev z.length
     rw[e3]
     have e4:=filterMap_get z.cps ((List.range z.length).map fun k=>z.length-1-k) (fun i hi=>by
      obtain⟨k,hk,rfl⟩:=xB.mp hi
      have:=vy.mp hk
      show z.length-1-k<z.length
      lia)
     rw[e4,vd]
     refine List.ext_getElem (by simp[Str.length]) fun i h1 h2=>?_
     simp only[List.getElem_reverse,List.getElem_map,List.getElem_range,Function.comp]
     have:z.length-1-i<z.cps.size:=by
      simp at h1
      show _<z.length
      have:z.length=z.cps.size:=rfl
      lia
     have e9:z.length=z.cps.size:=rfl
     simp[Array.getD,Str.length]
     intro hh
     exfalso
     lia
    rw[er]at k2
    refine tail_any (typeIs_str _ z t2) PySem.F.slot_str_getitem.lookup (wpAny_getItem_str_slice (l:=none) (u:=none) (st:=some (-1,t)) hs rfl ?_) (by with_unfolding_all rfl)
    unfold sliceMade
    rw[xf (by simp)]
    refine⟨?_,⟨.str _,H2,I4.tok _,⟨_,rfl⟩,k2 _ H2 a2 .refl rfl⟩⟩
    have l2:=congrArg (fun x:Str=>x.length) er
    show((slicePicked z none none (some (-1,t))).filterMap (z.cps[·]?)).toArray.size<=_
    have l3:((slicePicked z none none (some (-1,t))).filterMap (z.cps[·]?)).toArray.size=z.length:=by
     rw[<- lz]
     simpa[Str.length]using l2.symm
    rw[l3,xZ]
    lia
   ·cases ed
  ·split at ed
   ·rename_i l el
    cases ed
    obtain⟨a,xs,rfl,hq,rl⟩:=zCk a2 rx2 el
    cases r1
    obtain⟨its,r,ht,hz⟩:=I4.list hq
    refine tail_any ht.isList.typeIs slot_list_getitem.lookup (wpAny_getItem_list_slice ht.isList hs .none .none (.int (-1) t) (by simp) ?_ (by rw[xu,<- Vals.length r];exact hz)) (by with_unfolding_all rfl)
    rw[zOe]
    refine⟨.ref _,_,I4.laid (o:=.lst xs.reverse) (fun b ob q=>xi _ q) (xh _) ⟨by rw[uM];exact hz,_,0,r.reverse,xw _ rfl⟩,rfl,k2 _ _ (a2.push (I4.hok.fresh (xh _))) (.push (I4.hok.fresh (xh _))) ⟨_,_,rfl,⟨zA5,a2.out (I4.hok.fresh (xh _))⟩,(RepL.grow (.push (I4.hok.fresh (xh _))) _ _ rl).reverse⟩⟩
   ·cases ed
theorem zU8 {t:Tok}{p3 p4:Pos}(he:DE X K E e m) (hK:X.K=K:=by rfl):DE X K E (.Subscript e (.Slice none none (some (.UnaryOp .USub (.Constant (.int 1) t p3) p4)) p2) pos) (DS.eUn DS.revZ m):=zUs he (zZ4 zJz zR7) (fun _ _=>rfl) hK
end
theorem zN2:zAu X (.builtin "ord") (cOf K DS.ordB):=by
 intro pins s σ H xs us Q I r hq
 obtain⟨J,S,ds,d,ha,rl,e,k⟩:=hq
 unfold DS.ordB at e
 split at e
 ·split at e
  ·rename_i z h
   cases e
   obtain⟨x,rfl,rx⟩:=zBa (ds:=[]) rl
   obtain rfl:=rx
   obtain⟨u,rfl,ru⟩:=vals1 r
   obtain⟨t,rfl⟩:=ru
   exact ord_of_one h ⟨.int _,H,I.tok _,⟨_,rfl⟩,k _ H ha .refl rfl⟩
  ·cases e
 ·cases e
noncomputable def vN:Value->Bool
 | .none=>true
 | _=>false
theorem zIr {l:List D}{xs:List V}{us:List Value}(rl:RepL K J H l xs) (r:Vals xs us) (h:l.all DS.nOk=true):us.any vN=l.any DS.isN:=by
 induction l generalizing xs us with
 | nil=>cases rl;cases r;rfl
 | cons d l ih=>
  obtain⟨x,xs',rfl,hx,hr⟩:=rl
  cases r with
  | cons ru r'=>
   rw[vw,xm]at h
   rw[List.any_cons,List.any_cons,ih hr r' h.2]
   congr 1
   cases d with
   | non=>obtain rfl:=hx;cases ru;rfl
   | int i=>obtain rfl:=hx;obtain⟨t,rfl⟩:=ru;rfl
   | tup m=>obtain⟨a,ys,rfl,_⟩:=hx;cases ru;rfl
   | _=>exact nomatch h.1
theorem zPh {pins:List (Addr × Obj)}{σ:St}{s:Shared}{l:List D}{xs:List V}{us:List Value}{A:Around}(I:Inv X pins σ H s) (hA:A.units<cLine) (rl:RepL X.K J H l xs) (r:Vals xs us) (h:l.all DS.nOk=true):∀y∈us,SeqAt.EqAt A s y .none (vN y):=by
 induction l generalizing xs us with
 | nil=>cases rl;cases r;intro y hy;cases hy
 | cons d l ih=>
  obtain⟨x,xs',rfl,hx,hr⟩:=rl
  cases r with
  | cons ru r'=>
   rw[vw,xm]at h
   intro y hy
   rcases xk.mp hy with e|hy
   ·subst e
    cases d with
    | non=>obtain rfl:=hx;cases ru;exact SeqAt.EqAt.same _
    | int i=>obtain rfl:=hx;obtain⟨t,rfl⟩:=ru;exact SeqAt.EqAt.int_none _ _
    | tup m=>
     obtain⟨a,ys,rfl,t,_⟩:=hx
     cases ru
     obtain⟨_,_,pa,_⟩:=I.tuple t.sq
     exact SeqAt.EqAt.tuple_none pa hA
    | _=>exact nomatch h.1
   ·exact ih hr r' h.2 y hy
theorem zT6 (hu:X.A.units+64<cLine) (hK:X.K=K:=by rfl):OpR X (compareOp .In) (r2Of K DS.inNN):=by
 subst hK
 intro pins s σ H x y v u Q I rx ry hq32
 obtain⟨J,S,d1,d2,d,ha,r1,r2,e,k⟩:=hq32
 unfold DS.inNN at e
 have hA:X.A.in1.units<cLine:=by show X.A.units+1<cLine;lia
 split at e
 ·rename_i l e1
  split at e
  ·rename_i h
   cases e
   obtain rfl:=r1
   cases rx
   obtain⟨a,xs,rfl,hq,rl⟩:=zCp (l:=l) ha r2 (by unfold DS.items;rw[e1])
   cases ry
   rcases hq with hq|hq
   ·obtain⟨its,r,pl,hz⟩:=I.list hq
    refine SeqAt.in_listAt vN pl.isList (fun y hy=>zPh I hA rl r h y (by simpa using hy)) ⟨.bl _,H,I,?_,k _ H ha .refl rfl⟩
    rw[<- zIr rl r h]
    show Value.bool _=Value.bool _
    simp
   ·obtain⟨its,r,pl,hz⟩:=I.tuple hq
    refine SeqAt.in_tupleAt vN pl (fun y hy=>zPh I hA rl r h y (by simpa using hy)) ⟨.bl _,H,I,?_,k _ H ha .refl rfl⟩
    rw[<- zIr rl r h]
    show Value.bool _=Value.bool _
    simp
  ·cases e
 ·rename_i l e1
  split at e
  ·rename_i h
   cases e
   obtain rfl:=r1
   cases rx
   obtain⟨a,xs,rfl,hq,rl⟩:=zCp (l:=l) ha r2 (by unfold DS.items;rw[e1])
   cases ry
   rcases hq with hq|hq
   ·obtain⟨its,r,pl,hz⟩:=I.list hq
    refine SeqAt.in_listAt vN pl.isList (fun y hy=>zPh I hA rl r h y (by simpa using hy)) ⟨.bl _,H,I,?_,k _ H ha .refl rfl⟩
    rw[<- zIr rl r h]
    show Value.bool _=Value.bool _
    simp
   ·obtain⟨its,r,pl,hz⟩:=I.tuple hq
    refine SeqAt.in_tupleAt vN pl (fun y hy=>zPh I hA rl r h y (by simpa using hy)) ⟨.bl _,H,I,?_,k _ H ha .refl rfl⟩
    rw[<- zIr rl r h]
    show Value.bool _=Value.bool _
    simp
  ·cases e
 ·cases e
theorem zXb (hu:X.A.units+64<cLine):OpR X (compareOp .GtE) (r2Of K DS.geT):=by
 intro pins s σ H x y a b Q I rx ry hq33
 obtain⟨J,S,d1,d2,d,ha,r1,r2,e,k⟩:=hq33
 unfold DS.geT at e
 split at e
 ·split at e
  ·rename_i hs
   cases e
   have q1:=zEt I 1 hs.1 r1 rx
   have q2:=zEt I 1 hs.2 r2 ry
   obtain⟨_,a',_,_,_,_,rfl,_⟩:=id q1
   obtain⟨_,b',_,_,_,_,rfl,_⟩:=id q2
   exact(yAw q1 q2 (by nofun) ⟨.bl _,H,I,rfl,k _ H ha .refl rfl⟩:wpAny (model X.prog X.w) X.A (richCompare .GtE (.ref a') (.ref b')) (EP X pins σ Q) X.xe s)
  ·cases e
 ·cases e
theorem zYf {pins:List (Addr × Obj)}{σ:St}{s:Shared}{l m:List D}{xs ys:List V}{its jts:List Value}(hu:X.A.units+64<cLine) (I:Inv X pins σ H s) (q1:RepL X.K J H l xs) (q2:RepL X.K J H m ys) (va:Vals xs its) (vb:Vals ys jts) (hl:∀p∈l.zip m,DS.zP2 p.1 p.2) (j:Nat) (h1:j<its.length) (h2:j<jts.length):
  SeqAt.EqAt X.A.in1 s its[j] jts[j] (decide (l[j]?=m[j]?)):=by
 have z1:j<xs.length:=by rw[va.length];exact h1
 have z2:j<ys.length:=by rw[vb.length];exact h2
 obtain⟨d,ed,rd⟩:=q1.get' (xC z1)
 obtain⟨e,ee,re⟩:=q2.get' (xC z2)
 obtain⟨u,eu,ru⟩:=va.get (xC z1)
 obtain⟨w,ew,rw_⟩:=vb.get (xC z2)
 obtain rfl:its[j]=u:=by rw[xC h1]at eu;exact xD eu
 obtain rfl:jts[j]=w:=by rw[xC h2]at ew;exact xD ew
 have hm:=hl (d,e) (uG (List.getElem?_zip_eq_some.mpr ⟨ed,ee⟩))
 rw[ed,ee,show decide (some d=some e)=decide (d=e)from xS.mpr ⟨xD,fun z=>by rw[z]⟩]
 rcases hm with⟨a,b,e1,e2⟩|⟨a,b,e1,e2⟩|⟨n,hn,l1,l2⟩
 ·dsimp only at e1 e2
  subst e1 e2
  have rd:xs[j]=.bl a:=rd
  have re:ys[j]=.bl b:=re
  rw[rd]at ru
  rw[re]at rw_
  rw[show its[j]=.bool a from ru,show jts[j]=.bool b from rw_,show decide (D.bl a=D.bl b)=(a == b) by rw[uN];simp]
  exact SeqAt.EqAt.bool_bool _ _
 ·dsimp only at e1 e2
  subst e1 e2
  have rd:xs[j]=.str a:=rd
  have re:ys[j]=.str b:=re
  rw[rd]at ru
  rw[re]at rw_
  obtain⟨t,e1⟩:=ru
  obtain⟨t',e2⟩:=rw_
  rw[e1,e2,show decide (D.str a=D.str b)=(a == b) by rw[uN];simp]
  exact SeqAt.EqAt.str_str _ _ _ _
 ·exact fun prog w E Q hq=>zGw n (zEt I n l1 rd ru) (zEt I n l2 re rw_) (by show X.A.units+1+n<cLine;lia) hq
theorem zQj (hu:X.A.units+64<cLine) (hK:X.K=K:=by rfl):OpR X (compareOp .Eq) (r2Of K DS.eqY):=by
 subst hK
 intro pins s σ H x y v u Q I rx ry hq34
 obtain⟨J,S,d1,d2,d,ha,r1,r2,e,k⟩:=hq34
 unfold DS.eqY at e
 split at e
 ·cases e
  obtain rfl:=r1
  obtain rfl:=r2
  obtain⟨t,rfl⟩:=rx
  obtain⟨t',rfl⟩:=ry
  exact SeqAt.RcAt.str_str _ _ _ _ _ _ _ _ ⟨.bl _,H,I,rfl,k _ H ha .refl rfl⟩
 ·split at e
  ·rename_i l m hs
   cases e
   obtain⟨a,xs,rfl,t1,q1⟩:=r1
   obtain⟨b,ys,rfl,t2,q2⟩:=r2
   cases rx
   cases ry
   obtain⟨its,va,ta,_⟩:=I.tuple t1.sq
   obtain⟨jts,vb,tb,_⟩:=I.tuple t2.sq
   refine SeqAt.RcAt.tuples (e:=fun j=>decide (l[j]?=m[j]?)) (show s.heap.IsTuple a its.toArray from ta) (show s.heap.IsTuple b jts.toArray from tb) (by nofun) (fun j h1 h2=>?_) _ _ _ _ ?_
   ·simp only[List.getElem_toArray]
    exact zYf hu I q1 q2 va vb hs j (by simpa using h1) (by simpa using h2)
   ·simp only[xu]
    rw[<- va.length,<- vb.length,<- q1.length,<- q2.length,zRd]
    exact⟨.bl _,H,I,rfl,k _ H ha .refl rfl⟩
  ·cases e
 ·cases e
theorem zX8 (hu:X.A.units+64<cLine) (hK:X.K=K:=by rfl):OpR X (compareOp .NotEq) (r2Of K DS.neE):=by
 subst hK
 intro pins s σ H x y v u Q I rx ry hq35
 obtain⟨J,S,d1,d2,d,ha,r1,r2,e,k⟩:=hq35
 unfold DS.neE at e
 split at e
 ·cases e
  obtain rfl:=r1
  obtain rfl:=r2
  obtain⟨t,rfl⟩:=rx
  obtain⟨t',rfl⟩:=ry
  exact ne_int ⟨.bl _,H,I,rfl,k _ H ha .refl rfl⟩
 ·split at e
  ·rename_i l el
   cases e
   obtain⟨a,xs,rfl,q1,rl⟩:=zCk ha r1 el
   obtain⟨b,ys,rfl,q2,r0⟩:=zCk (l:=[]) ha r2 rfl
   cases(show ys=[]from r0)
   cases rx
   cases ry
   obtain⟨its,va,pa,_⟩:=I.list q1
   obtain⟨jts,vb,pb,_⟩:=I.list q2
   cases vb
   have hl:l.length=its.length:=by rw[rl.length,va.length]
   cases its with
   | nil=>
    cases l with
    | nil=>
     have:=SeqAt.RcNeAt.lists (A:=X.A) (s:=s) (e:=fun _=>true) pa.isList pb.isList rfl (by nofun) (fun j h1 _=>absurd h1 (by simp))
     exact this _ _ _ _ ⟨.bl _,H,I,rfl,k _ H ha .refl rfl⟩
    | cons=>cases hl
   | cons z its=>
    cases l with
    | nil=>cases hl
    | cons=>
     exact SeqAt.RcNeAt.lists_lengths pa.isList pb.isList (by simp) (by nofun) _ _ _ _ ⟨.bl _,H,I,rfl,k _ H ha .refl rfl⟩
  ·cases e
 ·cases e
end
end L2
namespace L2
open PySem PySem.Spec PyProof.Rows
open DS (D Store Exn Rs SR)
section
variable {X:Cx}{K:PySem.W.Frag}{J:Js}{S:Store}{H:Hp}{pins:List (Addr × Obj)}{σ:St}{s:Shared}
theorem zXe (hu:X.A.units+64<cLine) (hK:X.K=K:=by rfl):OpR X (compareOp .Eq) (r2Of K DS.eqE):=by
 subst hK
 intro pins s σ H x y v u Q I rx ry hq36
 obtain⟨J,S,d1,d2,d,ha,r1,r2,e,k⟩:=hq36
 unfold DS.eqE at e
 split at e
 ·rename_i l el
  cases e
  obtain⟨a,xs,rfl,q1,rl⟩:=zCk ha r1 el
  obtain⟨b,ys,rfl,q2,r0⟩:=zCk (l:=[]) ha r2 rfl
  cases(show ys=[]from r0)
  cases rx
  cases ry
  obtain⟨its,va,pa,_⟩:=I.list q1
  obtain⟨jts,vb,pb,_⟩:=I.list q2
  cases vb
  have hl:l.length=its.length:=by rw[rl.length,va.length]
  cases its with
  | nil=>
   cases l with
   | nil=>
    have:=SeqAt.RcAt.lists (A:=X.A) (s:=s) (e:=fun _=>true) pa.isList pb.isList rfl (by nofun) (fun j h1 _=>absurd h1 (by simp))
    exact this _ _ _ _ ⟨.bl _,H,I,rfl,k _ H ha .refl rfl⟩
   | cons=>cases hl
  | cons z its=>
   cases l with
   | nil=>cases hl
   | cons=>
    exact SeqAt.RcAt.lists_lengths pa.isList pb.isList (by simp) (by nofun) _ _ _ _ ⟨.bl _,H,I,rfl,k _ H ha .refl rfl⟩
 ·cases e
end
end L2
namespace L2
open PySem PySem.Spec PyProof.Rows
open DS (D Store Exn Rs SR)
theorem zI9 (its:List Value):∀(k:Nat) (acc:List Value),List.foldl (fun x1 x2=>x1++x2) acc.toArray (List.replicate k its.toArray)=(acc++(List.replicate k its).flatten).toArray
 | 0,acc=>by simp
 | k+1,acc=>by
  rw[uI,uR,show acc.toArray++its.toArray=(acc++its).toArray by simp,zI9 its k]
  simp[uI]
theorem zHj {xs:List V}{us:List Value}(h:Vals xs us):∀k:Nat,Vals (List.replicate k xs).flatten (List.replicate k us).flatten
 | 0=>.nil
 | k+1=>by simpa[uI]using h.append (zHj h k)
section
variable {X:Cx}{K:PySem.W.Frag}{J:Js}{S:Store}{H:Hp}
theorem zKm {ds:List D}{xs:List V}(h:RepL K J H ds xs):∀k:Nat,RepL K J H (List.replicate k ds).flatten (List.replicate k xs).flatten
 | 0=>rfl
 | k+1=>by simpa[uI]using h.append (zKm h k)
theorem zTe {pins:List (Addr × Obj)}{σ:St}{s:Shared}{a:Addr}{xs:List V}{n:Int}{t:Tok}{Q:VK}(I:Inv X pins σ H s) (h1:Rd H a (.lst xs)) (hx:xs≠[]) (h0:0<=n) (h2:n<=1000000) (hz:xs.length*n.toNat<=sizeLine)
  (q:∀p,H p=none->Q (.ref p) (upd H p (.lst (List.replicate n.toNat xs).flatten))):wpAny (model X.prog X.w) X.A (binaryOp .Mult (.ref a) (.int n t)) (EP X pins σ Q) X.xe s:=by
 obtain⟨z,its,k,r,hl,e⟩:=I.lstR h1
 have ne:its.toArray.isEmpty=false:=by
  cases its with
  | nil=>exact absurd (yd hl) hx
  | cons u us=>rfl
 have sz:its.toArray.size*n.toNat<=sizeLine:=by rw[xu,<- hl];exact hz
 have sl:sizeLine<=2 ^ 24:=by decide
 refine wpAny_binaryOp_repeat_ref (by decide) ⟨_,e,rfl⟩ (fun s'=>typeIs_int s' n t) noFill_list_mul F.fills_int_mul F.slot_int_rmul repeat_list F.slot_int_index.lookup ?_
 refine call_meets F.slot_int_rmul (typeIs_int s n t) F.entry_int_rmul (F.args_int_rmul_2 _ _) (int___rmul___int_list n t a its.toArray k) ⟨e,rfl,⟨_,e,rfl⟩,?_⟩
 refine call_meets F.slot_list_mul ⟨_,e,rfl⟩ F.entry_list_mul (F.args_list_mul_2 _ _) (AutoListH.list___mul___list_int_3 a its.toArray k n t (by simp[Builtin.List.listFitsIndex];lia) (by nofun) (by simp only[Builtin.List.listTooLong];simpa using sz)) ⟨e,?_⟩
 rw[ne]
 simp only[xP,xK]
 rw[show(#[]:Array Value)=([]:List Value).toArray from rfl,zI9 its n.toNat [],vY]
 exact⟨.ref _,_,I.lnew (zHj r n.toNat) (by rw[len_rep,Nat.mul_comm];exact hz),rfl,q _ I.fresh⟩
theorem zT4:OpR X (binaryOp .Mult) (r2Of K DS.mulE):=by
 intro pins s σ H x y v u Q I rx ry hq37
 obtain⟨J,S,d1,d2,d,ha,r1,r2,e,k⟩:=hq37
 unfold DS.mulE at e
 split at e
 ·rename_i l n e1
  split at e
  ·rename_i h
   cases e
   obtain⟨a,xs,rfl,h1,q1⟩:=zBb ha r1 e1
   obtain rfl:=r2
   cases rx
   obtain⟨t,rfl⟩:=ry
   have el:=q1.length
   exact zTe I h1 (fun z=>h.1 (by subst z;exact yd el)) h.2.1 h.2.2.2 (by rw[<- el];exact h.2.2.1) fun p n=>k _ _ (ha.push n) (.push n) ⟨p,_,rfl,⟨zA5,ha.out n⟩,RepL.grow (.push n) _ _ (zKm q1 _)⟩
  ·cases e
 ·exact zLa pins s σ H x y v u Q I rx ry ⟨J,S,d1,_,d,ha,r1,r2,e,k⟩
end
end L2
namespace DS
open PySem (Str)
noncomputable section
open Classical
theorem zDs {n:Nat}:∀(S:Store),keeps n S S
 | []=>trivial
 | _::r=>⟨.inl rfl,zDs r⟩
theorem zI4 {n:Nat}:∀{S S':Store},S.length=S'.length->(∀(i:Nat) (d:D),S'[i]?=some d->S[i]?=some d\/d.low n=true)->keeps n S S'
 | [],_,_,_=>trivial
 | a::r,[],e,_=>by simp at e
 | a::r,b::t,e,h=>⟨by
   rcases h 0 b rfl with q|q
   ·exact .inl (by simpa using q)
   ·exact .inr q,zI4 (by simpa using e) fun i d q=>by simpa using h (i+1) d (by simpa using q)⟩
theorem zEp {S:Store}{d:D}(h:d.low S.length=true):fin S d S=.ok d S:=by
 unfold fin
 rw[xc (zDs S),xc h,List.take_length]
theorem zYd {S S':Store}{d:D}(e:S.length=S'.length) (k:∀(i:Nat) (d:D),S'[i]?=some d->S[i]?=some d\/d.low S.length=true) (h:d.low S.length=true):fin S d S'=.ok d S':=by
 unfold fin
 rw[xc (zI4 e k),xc h,e,List.take_length]
theorem atN {l:List D}{i:Int}{k:Nat}{d:D}(h:i=(k:Int)) (e:l[k]?=some d):atL l i=some d:=by
 obtain⟨hk,_⟩:=xI.mp e
 unfold atL ixN
 rw[xc (by nofun),xc (by nofun)]
 show l[i.toNat]?=some d
 rw[show i.toNat=k by nofun];exact e
theorem atM {l:List D}{i:Int}{k:Nat}{d:D}(h:i=(k:Int)-l.length) (e:l[k]?=some d):atL l i=some d:=by
 obtain⟨hk,_⟩:=xI.mp e
 unfold atL ixN
 rw[xf (by nofun),xc (by nofun)]
 show l[(i+l.length).toNat]?=some d
 rw[show(i+l.length).toNat=k by nofun];exact e
theorem atL0 {d:D}{l:List D}:atL (d::l) 0=some d:=atN rfl rfl
theorem atL1 {d e:D}{l:List D}:atL (d::e::l) 1=some e:=atN rfl rfl
theorem atL2 {d e f:D}{l:List D}:atL (d::e::f::l) 2=some f:=atN rfl rfl
theorem atL3 {d e f g:D}{l:List D}:atL (d::e::f::g::l) 3=some g:=atN rfl rfl
theorem ixT {S:Store}{l:List D}{i:Int}:ixD S (.tup l) (.int i)=atL l i:=rfl
theorem ixL {S:Store}{l:List D}{i:Int}:ixD S (.lst l) (.int i)=atL l i:=rfl
theorem zLy {S:Store}{l:List D}:items S (.tup l)=some l:=rfl
theorem zLz {S:Store}{l:List D}:items S (.lst l)=some l:=rfl
theorem zOz {S:Store}{l:List D}:look S (.tup l)=some (.tup l):=rfl
theorem zP0 {S:Store}{l:List D}:look S (.lst l)=some (.lst l):=rfl
theorem zP1 {S:Store}{i:Int}:look S (.int i)=some (.int i):=rfl
theorem zTi {S:Store}{b:Bool}:look S (.bl b)=some (.bl b):=rfl
theorem zBv {S:Store}{a b:Int}(h:sm a/\sm b):mulD S (.int a) (.int b)=some (.int (a*b)):=xc h
end
end DS
local macro_rules | `(tactic| simp_arith [$ls,*]) => `(tactic| simp only [DS.sSeq, DS.sSet, DS.sRet, DS.zZw, DS.zAv, DS.sIf, DS.sUnp, DS.zJ0, DS.sPar, DS.zKf, DS.eVar, DS.eC, DS.eOp, DS.eUn, DS.aNil, DS.zA0, DS.eTup, DS.eLst, DS.eCB, DS.zA8, DS.eSl, DS.pNo, DS.pYes, DS.asI, DS.asB, DS.tB, DS.tAnd, DS.tOr, DS.tNot, DS.tYes, DS.eAnd, DS.eOr, DS.eNot, DS.eIf, DS.Rs.bind_ok, DS.Rs.then_ok, DS.zAc, DS.zDr, DS.gName, DS.gTup, DS.gAll, DS.zLy, DS.zLz, DS.zOz, DS.zP0, DS.zP1, DS.zTi, vX, Option.map_none, u6, List.getElem?_cons_succ, List.set_cons_zero, List.set_cons_succ, xA, uA, xx, vB, List.replicate, List.cons_append, vY, Nat.zero_add, Nat.reduceAdd, Nat.reduceSub, Nat.reduceLT, Nat.reduceEqDiff, xn, xK, DS.addD, DS.subD, DS.ixT, DS.ixL, DS.atL0, DS.atL1, DS.atL2, DS.atL3, vO, Bool.not_false, xP, reduceIte, $ls,*])
namespace DS
open PySem (Str)
noncomputable section
open Classical
noncomputable abbrev zCd:D:=.str (Str.ofString "seed")
noncomputable abbrev kNum:D:=.str (Str.ofString "number")
noncomputable abbrev zD5:D:=.str (Str.ofString "left")
theorem zK7 {a b:String}(h:(Str.ofString a).cps≠(Str.ofString b).cps):D.str (Str.ofString a)≠D.str (Str.ofString b):=fun e=>h (by injection e with e;rw[e])
theorem ne1:zCd≠kNum:=zK7 (by decide +kernel)
theorem ne2:zCd≠zD5:=zK7 (by decide +kernel)
theorem ne3:kNum≠zD5:=zK7 (by decide +kernel)
noncomputable def zCe (seed num:Int) (m:Nat):D:=.dct false [zCd,kNum,zD5] [.int seed,.int num,.ref m]
structure DealAt (S:Store) (n m:Nat) (seed num:Int) (left:List Int):Prop where
 d:S[n]?=some (zCe seed num m)
 l:S[m]?=some (.lst (left.map D.int))
 ne:n≠m
 lo:0<=seed
 hi:seed<2147483647
section
variable {S:Store}{n m:Nat}{seed num:Int}{left:List Int}
theorem zGs (h:DealAt S n m seed num left):ixD S (.ref n) zCd=some (.int seed):=by
 unfold ixD look
 simp only[h.d]
 simp only[zCe]
 rw[xc (show zCl false zCd=true from rfl),look2,xc rfl]
theorem zLv (h:DealAt S n m seed num left):ixD S (.ref n) kNum=some (.int num):=by
 unfold ixD look
 simp only[h.d]
 simp only[zCe]
 rw[xc (show zCl false kNum=true from rfl),look2,xf ne1,look2,xc rfl]
theorem zLw (h:DealAt S n m seed num left):ixD S (.ref n) zD5=some (.ref m):=by
 unfold ixD look
 simp only[h.d]
 simp only[zCe]
 rw[xc (show zCl false zD5=true from rfl),look2,xf ne2,look2,xf ne3,look2,xc rfl]
theorem zKp (h:DealAt S n m seed num left) (x:Int):putN S (.ref n) kNum (.int x)=some (S.set n (zCe seed x m)):=by
 unfold putN
 simp only[h.d]
 simp only[zCe]
 rw[xc ⟨rfl,by decide⟩]
 unfold put2
 rw[xc (by simp)]
 dsimp only
 rw[repl2,xf ne1,repl2,xc rfl,repl2,xf (xr ne3),repl2]
 all_goals simp
theorem zO2 (h:DealAt S n m seed num left) (x:Int):putN S (.ref n) zCd (.int x)=some (S.set n (zCe x num m)):=by
 unfold putN
 simp only[h.d]
 simp only[zCe]
 rw[xc ⟨rfl,by decide⟩]
 unfold put2
 rw[xc (by simp)]
 dsimp only
 rw[repl2,xc rfl,repl2,xf (xr ne1),repl2,xf (xr ne2),repl2]
 all_goals simp
theorem DealAt.lt (h:DealAt S n m seed num left):n<S.length:=(xI.mp h.d).1
theorem DealAt.ltm (h:DealAt S n m seed num left):m<S.length:=(xI.mp h.l).1
theorem DealAt.set_num (h:DealAt S n m seed num left) (x:Int):DealAt (S.set n (zCe seed x m)) n m seed x left:=⟨by rw[xY h.lt],by rw[xF h.ne];exact h.l,h.ne,h.lo,h.hi⟩
theorem DealAt.set_seed (h:DealAt S n m seed num left) (x:Int) (h1:0<=x) (h2:x<2147483647):DealAt (S.set n (zCe x num m)) n m x num left:=⟨by rw[xY h.lt],by rw[xF h.ne];exact h.l,h.ne,h1,h2⟩
theorem DealAt.set_left (h:DealAt S n m seed num left) (l:List Int):DealAt (S.set m (.lst (l.map D.int))) n m seed num l:=⟨by rw[xF (xr h.ne)];exact h.d,by rw[xY h.ltm],h.ne,h.lo,h.hi⟩
structure Only (n m:Nat) (S S':Store):Prop where
 len:S'.length=S.length
 at_:∀k,k≠n->k≠m->S'[k]?=S[k]?
theorem Only.refl:Only n m S S:=⟨rfl,fun _ _ _=>rfl⟩
theorem Only.trans {S' S'':Store}(a:Only n m S S') (b:Only n m S' S''):Only n m S S'':=⟨b.len.trans a.len,fun k h1 h2=>(b.at_ k h1 h2).trans (a.at_ k h1 h2)⟩
theorem Only.set1 (d:D):Only n m S (S.set n d):=⟨by simp,fun k h1 _=>xF (xr h1)⟩
theorem Only.set2 (d:D):Only n m S (S.set m d):=⟨by simp,fun k _ h1=>xF (xr h1)⟩
noncomputable abbrev zJt:TM:=(tAnd (tB (eOp eqI (eOp ixD (eVar 0) (eC kNum)) (eC (.int 0)))) (tB (eOp gtD (eCB lenB (zA0 (eOp ixD (eVar 0) (eC zD5)) aNil)) (eC (.int 0)))))
noncomputable abbrev zJx:SM:=(sPut putN (eVar 0) (eC kNum) (eMt "list" popM (eOp ixD (eVar 0) (eC zD5)) aNil))
theorem zFt {S:Store}{num:Int}{left:List Int}(env:Env) (he:env[0]?=some (some (.ref n))) (h:DealAt S n m seed num left):zJt env S=.ok false S\/∃ls x,left=ls++[x]/\zJt env S=.ok true S/\zJx env S=.nx env ((S.set m (.lst (ls.map D.int))).set n (zCe seed x m)):=by
 have e0:eVar 0 env S=.ok (.ref n) S:=by unfold eVar;rw[he]
 have el:look S (.ref m)=some (.lst (left.map D.int)):=h.l
 have c1:tB (eOp eqI (eOp ixD (eVar 0) (eC kNum)) (eC (.int 0))) env S=.ok (decide (num=0)) S:=by simp only[tB,eOp,eC,e0,Rs.bind_ok,zLv h,zAc,zMe,asB]
 have c2:tB (eOp gtD (eCB lenB (zA0 (eOp ixD (eVar 0) (eC zD5)) aNil)) (eC (.int 0))) env S=.ok (decide ((0:Int)<(left.map D.int).length)) S:=by simp only[tB,eOp,eC,eCB,zA0,aNil,e0,Rs.bind_ok,zLw h,zAc,lenB,el,gtD,asB]
 unfold zJt tAnd
 rw[c1,Rs.bind_ok]
 by_cases h0:num=0
 ·rw[xo h0,xc rfl,c2]
  by_cases hl:left=[]
  ·subst hl
   exact .inl rfl
  ·obtain⟨ls,x,rfl⟩:∃ls x,left=ls++[x]:=⟨left.dropLast,left.getLast hl,(List.dropLast_concat_getLast hl).symm⟩
   refine .inr ⟨ls,x,rfl,by rw[xo (by simp)],?_⟩
   have ty:tyD S (.ref m)=some "list":=by unfold tyD;rw[el]
   have pm:popM S (.ref m) []=some (.int x,S.set m (.lst (ls.map D.int))):=by
    unfold popM
    simp only[h.l]
    simp
   have e1:eVar 0 env (S.set m (.lst (ls.map D.int)))=.ok (.ref n) (S.set m (.lst (ls.map D.int))):=by unfold eVar;rw[he]
   simp only[zJx,sPut,eMt,eOp,aNil,eC,e0,Rs.bind_ok,Rs.then_ok,zAc,zLw h,ty,xn,pm,zDr,e1,zKp (h.set_left ls)]
 ·rw[xl h0,xf (by decide)]
  exact .inl rfl
theorem zIw (env:Env) (he:env[0]?=some (some (.ref n))):∀(k:Nat) {S:Store}{num:Int}{left:List Int},left.length=k->DealAt S n m seed num left->∃S' num' left',zAs zJt zJx (k+1) env S=.nx env S'/\DealAt S' n m seed num' left'/\Only n m S S':=by
 intro k
 induction k with
 | zero=>
  intro S num left hk h
  rcases zFt env he h with c|⟨ls,x,rfl,_⟩
  ·exact⟨S,num,left,by rw[zAs,c,Rs.then_ok,xf (by decide)],h,.refl⟩
  ·simp at hk
 | succ k ih=>
  intro S num left hk h
  rcases zFt env he h with c|⟨ls,x,rfl,c,b⟩
  ·exact⟨S,num,left,by rw[zAs,c,Rs.then_ok,xf (by decide)],h,.refl⟩
  ·obtain⟨S',num',left',e,hd,o⟩:=ih (by simpa using hk) ((h.set_left ls).set_num x)
   refine⟨S',num',left',?_,hd,(Only.set2 _).trans ((Only.set1 _).trans o)⟩
   rw[zAs,c,Rs.then_ok,xc rfl,b]
   exact e
noncomputable def zZl:SM:=
  (sSeq (zD0 zJt zJx)
  (sSeq (sSet 2 (eOp ixD (eVar 0) (eC kNum)))
  (sSeq (sIf (tB (eOp gtD (eVar 2) (eC (.int 0)))) (sSeq (sPut putN (eVar 0) (eC kNum) (eOp zGv (eVar 2) (eVar 1)))
  (sRet (eOp modD (eVar 2) (eVar 1)))) zAv)
  (sSeq (sSet 3 (eOp modD (eOp addD (eOp mulD (eOp ixD (eVar 0) (eC zCd)) (eC (.int 48271))) (eC (.int 7919))) (eC (.int 2147483647))))
  (sSeq (sPut putN (eVar 0) (eC zCd) (eOp modD (eOp addD (eOp mulD (eVar 3) (eC (.int 40692))) (eC (.int 104729))) (eC (.int 2147483399))))
  (sSeq (sSet 4 (eOp modD (eOp mulD (eOp ixD (eVar 0) (eC zCd)) (eOp ixD (eVar 0) (eC zCd))) (eC (.int 2147483563))))
  (sRet (eOp modD (eOp addD (eOp mulD (eOp modD (eOp mulD (eVar 3) (eVar 3)) (eC (.int 2147483629))) (eC (.int 2147483563))) (eVar 4)) (eVar 1)))))))))
theorem zCa {x:Int}(h1:0<=x) (h2:x<2147483648):sm x:=zCx (by nofun) (by nofun)
theorem zOy {k:Nat}(h:m<k):(zCe seed num m).low k=true:=by
 show(lowL k [zCd,kNum,zD5] && lowL k [.int seed,.int num,.ref m])=true
 simp[lowL,D.low,h]
theorem low_ints {k:Nat}:∀(l:List Int),lowL k (l.map D.int)=true
 | []=>rfl
 | x::l=>by show(true && lowL k (l.map D.int))=true;rw[low_ints l];rfl
theorem zEq {S':Store}{seed' num':Int}{left':List Int}{d:D}(h:DealAt S n m seed num left) (h':DealAt S' n m seed' num' left') (o:Only n m S S') (hd:d.low S.length=true):fin S d S'=.ok d S':=by
 refine zYd o.len.symm (fun i e he=>?_) hd
 by_cases h1:i=n
 ·subst h1;rw[h'.d]at he;cases he;exact .inr (zOy h.ltm)
 ·by_cases h2:i=m
  ·subst h2;rw[h'.l]at he;cases he;exact .inr (low_ints left')
  ·rw[o.at_ i h1 h2]at he;exact .inl he
noncomputable def Deal (S:Store) (n m:Nat):Prop:=∃seed num left,DealAt S n m seed num left
theorem zU3 {a b:Int}(hb:0<b) (hs:sm b):zGv S (.int a) (.int b)=some (.int (a.fdiv b)):=xc ⟨by nofun,hs⟩
theorem zBh {a b:Int}(hb:0<b):modD S (.int a) (.int b)=some (.int (a % b)):=xc hb
theorem zMk {many:Int}(hm:0<many) (hs:sm many) (h:Deal S n m):∃(r:Int) (S':Store),zAi 2 5 zZl [.ref n,.int many] S=.ok (.int r) S'/\0<=r/\r<many/\Deal S' n m/\Only n m S S':=by
 obtain⟨seed,num,left,h⟩:=h
 obtain⟨S1,num1,left1,ew,h1,o1⟩:=zIw (env:=[some (.ref n),some (.int many),none,none,none]) rfl left.length rfl h
 have ew':zD0 zJt zJx [some (.ref n),some (.int many),none,none,none] S=.nx [some (.ref n),some (.int many),none,none,none] S1:=by
  rw[zKi (by rw[ew];exact fun z=>nomatch z),ew]
 unfold zAi zZl
 simp only[xA,uA,Nat.reduceAdd,xn,xx,vB,Nat.reduceSub,List.replicate,List.cons_append,vY]
 rw[sSeq,ew']
 dsimp only
 have g:gtD S1 (.int num1) (.int 0)=some (.bl (decide (0<num1))):=rfl
 by_cases hp:0<num1
 ·have p1:=zKp h1 (num1.fdiv many)
  have h2:=h1.set_num (num1.fdiv many)
  try simp_arith [xn]
  simp only[zLv h1]
  try simp_arith [xn]
  simp only[g,xo hp]
  try simp_arith [xn]
  simp only[sPut]
  try simp_arith [xn]
  simp only[zU3 hm hs]
  try simp_arith [xn]
  simp only[p1]
  try simp_arith [xn]
  simp only[zBh hm]
  try simp_arith [xn]
  exact⟨num1 % many,_,zEq h h2 (o1.trans (.set1 _)) rfl,ug _ (by nofun),uf _ hm,⟨_,_,_,h2⟩,o1.trans (.set1 _)⟩
 ·simp_arith [xn]
  simp only[zLv h1]
  try simp_arith [xn]
  simp only[g,xl hp]
  try simp_arith [xn]
  simp only[zGs h1]
  try simp_arith [xn]
  have s1:sm seed/\sm 48271:=⟨zCa h1.lo (by have:=h1.hi;lia),zCa (by decide) (by decide)⟩
  simp only[zBv s1]
  try simp_arith [xn]
  simp only[zBh (show(0:Int)<2147483647 by decide)]
  try simp_arith [xn]
  generalize ho:(seed*48271+7919) % 2147483647=one
  have o0:0<=one:=by rw[<- ho];exact ug _ (by decide)
  have o9:one<2147483647:=by rw[<- ho];exact uf _ (by decide)
  simp only[sPut]
  try simp_arith [xn]
  simp only[zBv (show sm one/\sm 40692 from⟨zCa o0 (by nofun),zCa (by decide) (by decide)⟩)]
  try simp_arith [xn]
  simp only[zBh (show(0:Int)<2147483399 by decide)]
  try simp_arith [xn]
  generalize hq:(one*40692+104729) % 2147483399=sd
  have s0:0<=sd:=by rw[<- hq];exact ug _ (by decide)
  have s9:sd<2147483399:=by rw[<- hq];exact uf _ (by decide)
  have p1:=zO2 h1 sd
  have h2:=h1.set_seed sd s0 (by nofun)
  simp only[p1]
  try simp_arith [xn]
  simp only[zGs h2]
  try simp_arith [xn]
  simp only[zGs h2]
  try simp_arith [xn]
  simp only[zBv (show sm sd/\sm sd from⟨zCa s0 (by nofun),zCa s0 (by nofun)⟩)]
  try simp_arith [xn]
  simp only[zBh (show(0:Int)<2147483563 by decide)]
  try simp_arith [xn]
  simp only[zBv (show sm one/\sm one from⟨zCa o0 (by nofun),zCa o0 (by nofun)⟩)]
  try simp_arith [xn]
  simp only[zBh (show(0:Int)<2147483629 by decide)]
  try simp_arith [xn]
  generalize hw:one*one % 2147483629=w
  have w0:0<=w:=by rw[<- hw];exact ug _ (by decide)
  have w9:w<2147483629:=by rw[<- hw];exact uf _ (by decide)
  simp only[zBv (show sm w/\sm 2147483563 from⟨zCa w0 (by nofun),zCa (by decide) (by decide)⟩)]
  try simp_arith [xn]
  simp only[zBh hm]
  try simp_arith [xn]
  exact⟨_,_,zEq h h2 (o1.trans (.set1 _)) rfl,ug _ (by nofun),uf _ hm,⟨_,_,_,h2⟩,o1.trans (.set1 _)⟩
end
end
end DS
namespace DS
open PySem (Str)
noncomputable section
open Classical
structure AtJ (env:Env) (j:Nat) (d:D) (env':Env):Prop where
 len:env'.length=env.length
 at_:env'[j]?=some (some d)
 o:∀i:Nat,i≠j->env'[i]?=env[i]?
theorem AtJ.set {env:Env}{j:Nat}(h:j<env.length) (d:D):AtJ env j d (env.set j (some d)):=⟨by simp,by rw[xY h],fun i hi=>xF (xr hi)⟩
theorem AtJ.more {env env1 env2:Env}{j:Nat}{d e:D}(a:AtJ env j d env1) (b:AtJ env1 j e env2):AtJ env j e env2:=⟨b.len.trans a.len,b.at_,fun i hi=>(b.o i hi).trans (a.o i hi)⟩
theorem zD9 {gd:List (Nat × D)}{j:Nat}{c:TM}{e:EM}{f:D->D}{p:D->Bool}{S:Store}(hg:gOk S gd):∀(l:List D) (k:Nat) (env:Env),j<env.length->k+l.length<=most->(∀d∈l,∀env',AtJ env j d env'->c env' S=.ok (p d) S)->(∀d∈l,p d=true->∀env',AtJ env j d env'->e env' S=.ok (f d) S)->
  zC2 gd (gName j) c e k l env S=.ok ((l.filter p).map f) S
 | [],k,env,_,_,_,_=>by rw[zC2,xc hg];rfl
 | d::l,k,env,hj,hk,hc,he=>by
  have hk':k+(l.length+1)<=most:=hk
  rw[zC2,xc ⟨hg,by nofun⟩]
  have a:=AtJ.set hj d
  show(c (env.set j (some d)) S).bind _=_
  rw[hc d (.head _) _ a,Rs.bind_ok]
  have up:∀x env',AtJ (env.set j (some d)) j x env'->AtJ env j x env':=fun x env' q=>a.more q
  have r:=fun k' (h:k'+l.length<=most)=>zD9 hg l k' (env.set j (some d)) (by simpa using hj) h (fun x hx env' q=>hc x (.tail _ hx) env' (up x env' q)) fun x hx hp env' q=>he x (.tail _ hx) hp env' (up x env' q)
  by_cases hp:p d=true
  ·rw[xc hp,he d (.head _) hp _ a,Rs.bind_ok,r (k+1) (by nofun),Rs.bind_ok,v8 hp];rfl
  ·rw[xf hp,r k (by nofun),uE hp]
theorem comp_map {gd:List (Nat × D)}{j:Nat}{e:EM}{f:D->D}{S:Store}(hg:gOk S gd) {l:List D}{env:Env}(hj:j<env.length) (hk:l.length<=most) (he:∀d∈l,∀env',AtJ env j d env'->e env' S=.ok (f d) S):zC2 gd (gName j) tYes e 0 l env S=.ok (l.map f) S:=by
 have:=zD9 (p:=fun _=>true) hg l 0 env hj (by nofun) (fun _ _ _ _=>rfl) fun d hd _=>he d hd
 rwa[List.filter_eq_self.mpr fun _ _=>rfl]at this
theorem zAh {S:Store}:gOk S []:=fun _ h=>nomatch h
theorem zM7 {gd:List (Nat × D)}{i j:Nat}{b:SM}{S:Store}{f:D->D->D}(hij:i≠j) (hg:gOk S gd) {I:D->Prop}:∀(l:List D) (env:Env) (a:D),env[i]?=some (some a)->j<env.length->I a->(∀d∈l,∀env' a,env'.length=env.length->env'[i]?=some (some a)->env'[j]?=some (some d)->I a->(∀k,k≠i->k≠j->env'[k]?=env[k]?)->b env' S=.nx (env'.set i (some (f a d))) S/\I (f a d))->
  ∃env',forL gd (gName j) b l env S=.nx env' S/\env'.length=env.length/\env'[i]?=some (some (l.foldl f a))/\I (l.foldl f a)/\∀k,k≠i->k≠j->env'[k]?=env[k]?
 | [],env,a,ha,hj,hi,_=>⟨env,by rw[forL,xc hg],rfl,ha,hi,fun _ _ _=>rfl⟩
 | d::l,env,a,ha,hj,hi,hb=>by
  have il:i<env.length:=(xI.mp ha).1
  obtain⟨e1,i1⟩:=hb d (.head _) (env.set j (some d)) a (by simp) (by rw[xF (xr hij)];exact ha) (by rw[xY hj]) hi fun k _ hk=>xF (xr hk)
  obtain⟨env',e2,l2,a2,i2,o2⟩:=zM7 hij hg l ((env.set j (some d)).set i (some (f a d))) (f a d) (by rw[xY (by simpa using il)]) (by simpa using hj) i1 fun x hx env' a' hl h1 h2 h3 h4=>hb x (.tail _ hx) env' a' (by simpa using hl) h1 h2 h3 fun k k1 k2=>by
   rw[h4 k k1 k2,xF (xr k1),xF (xr k2)]
  refine⟨env',?_,by simpa using l2,a2,i2,fun k k1 k2=>by rw[o2 k k1 k2,xF (xr k1),xF (xr k2)]⟩
  rw[forL,xc hg]
  show(match b (env.set j (some d)) S with|.nx e S1=>forL gd (gName j) b l e S1|.ct e S1=>forL gd (gName j) b l e S1|.bk e S1=>.nx e S1|q=>q)=_
  rw[e1]
  exact e2
end
end DS
namespace DS
open PySem (Str)
noncomputable section
open Classical
noncomputable def absI (x:Int):Int:=if 0-x > x then 0-x else x
noncomputable abbrev eAbs:EM:=eCB max2B (zA0 (eVar 0) (zA0 (eOp subD (eC (.int 0)) (eVar 0)) aNil))
noncomputable abbrev zN8 (i j:Nat):SM:=sSet i (eOp modD (eOp addD (eOp mulD (eVar i) (eC (.int 48271))) (eOp modD (eVar j) (eC (.int 2147483629)))) (eC (.int 2147483647)))
noncomputable abbrev zU4 (i:Nat):EM:=zAf 1 [] (iVal (eVar i)) (gName 0) (tB (eOp geD (eVar 0) (eOp powD (eC (.int 10)) (eC (.int 18))))) (eVar 0)
noncomputable abbrev zO0 (i j:Nat):SM:=sRet (zPj [zCd,kNum,zD5] (zA0 (eVar j) (zA0 (eC (.int 0)) (zA0 (eNew (eUn revL (zU4 i))) aNil))))
theorem zPz {S:Store}{env:Env}(ns:List Int) (h:ns.length<=most):zC2 [] (gName 0) tYes eAbs 0 (ns.map D.int) (compEnv 1 [] env) S=.ok ((ns.map absI).map D.int) S:=by
 have:=comp_map (j:=0) (e:=eAbs) (f:=fun d=>match d with|.int x=>.int (absI x)|d=>d) (S:=S) (l:=ns.map D.int) (env:=compEnv 1 [] env) zAh (by simp[compEnv]) (by simpa using h) fun d hd env' a=>by
  obtain⟨x,_,rfl⟩:=xB.mp hd
  have e0:∀S,eVar 0 env' S=.ok (.int x) S:=fun S=>by unfold eVar;rw[a.at_]
  unfold eAbs eCB zA0 eOp aNil eC
  simp only[e0,Rs.bind_ok,subD,zAc,max2B]
  rfl
 rw[this,vd,vd]
 rfl
theorem zMr {S:Store}{env:Env}(i:Nat) (ns:List Int) (hi:env[i]?=some (some (.lst (ns.map D.int)))) (h:ns.length<=most):zU4 i env S=.ok (.lst ((ns.filter fun x=>decide ((10:Int) ^ 18<=x)).map D.int)) S:=by
 unfold zU4 zAf iVal
 have e0:eVar i env S=.ok (.lst (ns.map D.int)) S:=by unfold eVar;rw[hi]
 rw[e0,Rs.bind_ok,show zCg S (.lst (ns.map D.int))=some ⟨ns.map D.int,[]⟩from rfl,zAc,Rs.bind_ok]
 have:=zD9 (j:=0) (c:=tB (eOp geD (eVar 0) (eOp powD (eC (.int 10)) (eC (.int 18))))) (e:=eVar 0) (f:=id) (p:=fun d=>match d with|.int x=>decide ((10:Int) ^ 18<=x)|_=>false) (S:=S) zAh (ns.map D.int) 0 (compEnv 1 [] env) (by simp[compEnv]) (by simpa using h) (fun d hd env' a=>by
  obtain⟨x,_,rfl⟩:=xB.mp hd
  have e0:∀S,eVar 0 env' S=.ok (.int x) S:=fun S=>by unfold eVar;rw[a.at_]
  have pw:powD S (.int 10) (.int 18)=some (.int ((10:Int) ^ 18)):=by
   show(if(0:Int)<=18/\(18:Int)<=1000000/\(10:Int).natAbs<2 ^ 64 then some (D.int ((10:Int) ^ (18:Int).toNat))else none)=_
   rw[xc (by decide)];rfl
  unfold tB eOp eC
  simp only[e0,Rs.bind_ok,pw,zAc,geD,asB]) (fun d hd hp env' a=>by
  unfold eVar;rw[a.at_];rfl)
 rw[this,Rs.bind_ok,List.map_id]
 congr 2
 exact List.filter_map
theorem zPf {S:Store}{env:Env}{i j k:Nat}(hij:i≠j) (hik:i≠k) (hjk:j≠k) {ns:List Int}{a0:Int}(h1:env[i]?=some (some (.lst (ns.map D.int)))) (h2:env[j]?=some (some (.int a0))) (hk:k<env.length) (l0:0<=a0) (l1:a0<2147483647):
  ∃env' seed,sFor (iVal (eVar i)) (gName k) (zN8 j k) env S=.nx env' S/\env'.length=env.length/\env'[i]?=some (some (.lst (ns.map D.int)))/\env'[j]?=some (some (.int seed))/\0<=seed/\seed<2147483647:=by
 have e0:eVar i env S=.ok (.lst (ns.map D.int)) S:=by unfold eVar;rw[h1]
 obtain⟨env',e1,l2,a2,⟨seed,es,s0,s1⟩,o2⟩:=zM7 (b:=zN8 j k) (f:=fun a d=>match a,d with|.int a,.int d=>.int ((a*48271+d % 2147483629) % 2147483647)|a,_=>a) hjk zAh (I:=fun d=>∃x:Int,d=.int x/\0<=x/\x<2147483647) (ns.map D.int) env (.int a0) h2 hk ⟨a0,rfl,l0,l1⟩ fun d hd env' a hl q1 q2 q3 q4=>by
  obtain⟨x,_,rfl⟩:=xB.mp hd
  obtain⟨y,rfl,y0,y1⟩:=q3
  refine⟨?_,_,rfl,ug _ (by decide),uf _ (by decide)⟩
  have v1:∀S,eVar j env' S=.ok (.int y) S:=fun S=>by unfold eVar;rw[q1]
  have v2:∀S,eVar k env' S=.ok (.int x) S:=fun S=>by unfold eVar;rw[q2]
  unfold zN8 sSet eOp eC
  simp only[v1,v2,Rs.bind_ok,Rs.then_ok,zAc,zBv (show sm y/\sm 48271 from⟨zCa y0 (by nofun),zCa (by decide) (by decide)⟩),zBh (show(0:Int)<2147483629 by decide),addD,zBh (show(0:Int)<2147483647 by decide)]
 refine⟨env',seed,?_,l2,by rw[o2 i hij hik];exact h1,by rw[a2,es],s0,s1⟩
 unfold sFor iVal
 rw[e0,Rs.bind_ok,show zCg S (.lst (ns.map D.int))=some ⟨ns.map D.int,[]⟩from rfl,zAc,Rs.then_ok]
 exact e1
theorem zW2 {S:Store}{env:Env}{i j:Nat}{ns:List Int}{seed:Int}(h1:env[i]?=some (some (.lst (ns.map D.int)))) (h2:env[j]?=some (some (.int seed))) (s0:0<=seed) (s1:seed<2147483647) (hl:ns.length<=most):
  ∃S',zO0 i j env S=.rt (.ref S.length) S'/\Deal S' S.length (S.length+1)/\S'.length=S.length+2/\∀k,k<S.length->S'[k]?=S[k]?:=by
 have v2:∀S,eVar j env S=.ok (.int seed) S:=fun S=>by unfold eVar;rw[h2]
 have rv:∀S (l:List D),revL S (.lst l)=some (.lst l.reverse):=fun _ _=>rfl
 have lk:((S++[D.dct false [] []])++[D.lst ((ns.filter fun x=>decide ((10:Int) ^ 18<=x)).map D.int).reverse])[S.length]?=some (D.dct false [] []):=by simp
 refine⟨((S++[D.dct false [] []])++[D.lst ((ns.filter fun x=>decide ((10:Int) ^ 18<=x)).map D.int).reverse]).set S.length (.dct false [zCd,kNum,zD5] [.int seed,.int 0,.ref (S++[D.dct false [] []]).length]),?_,?_,?_,?_⟩
 ·unfold zO0 sRet zPj eNew eUn zA0 aNil eC
  simp only[v2,Rs.bind_ok,zMr i ns h1 hl,rv,zAc,lk,xn,Rs.then_ok]
 ·refine⟨seed,0,(ns.filter fun x=>decide ((10:Int) ^ 18<=x)).reverse,?_,?_,by nofun,s0,s1⟩
  ·simp[zCe]
  ·simp
 ·simp
 ·intro k hk
  rw[xF (by nofun),x6 (by simp;lia),x6 hk]
noncomputable def zN9:SM:=
  (sSeq (sSet 2 (zAf 1 [] (iVal (eSl slD (eVar 0) (pYes (eVar 1)) (pYes (eC (.int 63))))) (gName 0) tYes eAbs))
  (sSeq (sSet 3 (eOp addD (eC (.int 7919)) (eVar 1)))
  (sSeq (sFor (iVal (eVar 2)) (gName 4) (zN8 3 4)) (zO0 2 3))))
theorem zPy {ns:List Int}{lo hi:Option Int}:cutL (ns.map D.int) lo hi=(cutL ns lo hi).map D.int:=by
 unfold cutL
 simp[List.map_drop,List.map_take]
theorem zPw {S:Store}{ns:List Int}(h:ns.length<=63):∃S',zDg 2 5 zN9 [.klst (ns.map D.int),.int 0] S=.ok (.ref S.length) S'/\Deal S' S.length (S.length+1)/\S'.length=S.length+2/\∀k,k<S.length->S'[k]?=S[k]?:=by
 have hl:((cutL ns (some 0) (some 63)).map absI).length<=most:=by
  have:(cutL ns (some 0) (some 63)).length<=ns.length:=by unfold cutL;rw[vS,vq];lia
  have m63:63<=most:=by decide
  rw[xq];lia
 have sl:slD S (.klst (ns.map D.int)) (some 0) (some 63)=some (.lst ((cutL ns (some 0) (some 63)).map D.int)):=by
  show some (D.lst (cutL (ns.map D.int) (some 0) (some 63)))=_
  rw[zPy]
 have c1:=zPz (S:=S) (env:=[some (.klst (ns.map D.int)),some (.int 0),none,none,none]) (cutL ns (some 0) (some 63)) (by rw[xq]at hl;exact hl)
 have w1:zCg S (.lst ((cutL ns (some 0) (some 63)).map D.int))=some ⟨(cutL ns (some 0) (some 63)).map D.int,[]⟩:=rfl
 unfold zDg zN9
 simp only[xA,uA,Nat.reduceAdd,xn,xx,vB,Nat.reduceSub,List.replicate,List.cons_append,vY]
 obtain⟨env',seed,e1,l1,a1,b1,s0,s1⟩:=zPf (S:=S) (env:=[some (.klst (ns.map D.int)),some (.int 0),some (.lst (((cutL ns (some 0) (some 63)).map absI).map D.int)),some (.int (7919+0)),none]) (i:=2) (j:=3) (k:=4) (by decide) (by decide) (by decide) rfl rfl (by simp) (by decide) (by decide)
 obtain⟨S',e2,d2,l2,o2⟩:=zW2 a1 b1 s0 s1 hl
 refine⟨S',?_,d2,l2,o2⟩
 have st:sSeq (sSet 2 (zAf 1 [] (iVal (eSl slD (eVar 0) (pYes (eVar 1)) (pYes (eC (.int 63))))) (gName 0) tYes eAbs)) (sSeq (sSet 3 (eOp addD (eC (.int 7919)) (eVar 1))) (sSeq (sFor (iVal (eVar 2)) (gName 4) (zN8 3 4)) (zO0 2 3))) [some (.klst (ns.map D.int)),some (.int 0),none,none,none] S=.rt (.ref S.length) S':=by
  simp only[sSeq,sSet,zAf,iVal,eSl,pYes,eC,eOp,eVar,u6,List.getElem?_cons_succ,Rs.bind_ok,zAc,vX,asI,sl,w1,c1,Rs.then_ok,List.set_cons_zero,List.set_cons_succ,addD]
  simp only[e1,e2]
 rw[st]
end
end DS
namespace DS
open PySem (Str)
noncomputable section
open Classical
theorem zBe {np nl:Nat}{b:SM}{ds:List D}{S:Store}{d:D}(hl:ds.length=np) (h:b (ds.map some++List.replicate (nl-np) none) S=.rt d S) (hd:d.low S.length=true):zAi np nl b ds S=.ok d S:=by
 unfold zAi
 rw[xc hl,h]
 exact zEp hd
theorem zE0 {np nl n m:Nat}{b:SM}{ds:List D}{S S':Store}{d:D}(hl:ds.length=np) (h:b (ds.map some++List.replicate (nl-np) none) S=.rt d S') (h0:Deal S n m) (h1:Deal S' n m) (o:Only n m S S') (hd:d.low S.length=true):zAi np nl b ds S=.ok d S':=by
 obtain⟨_,_,_,a⟩:=h0
 obtain⟨_,_,_,b⟩:=h1
 unfold zAi
 rw[xc hl,h]
 exact zEq a b o hd
end
end DS
namespace DS
open PySem (Str)
noncomputable section
open Classical
structure Grow (n m:Nat) (S S':Store):Prop where
 len:S.length<=S'.length
 at_:∀k,k<S.length->k≠n->k≠m->S'[k]?=S[k]?
section
variable {n m:Nat}{S S' S'':Store}
theorem Grow.trans (a:Grow n m S S') (b:Grow n m S' S''):Grow n m S S'':=⟨xp a.len b.len,fun k h h1 h2=>(b.at_ k (xv h a.len) h1 h2).trans (a.at_ k h h1 h2)⟩
theorem Only.grow (a:Only n m S S'):Grow n m S S':=⟨by rw[a.len];exact xh _,fun k _ h1 h2=>a.at_ k h1 h2⟩
theorem Grow.app (T:Store):Grow n m S (S++T):=⟨by simp,fun k h _ _=>x6 h⟩
theorem Grow.set {c:Nat}{d:D}(a:Grow n m S S') (h:S.length<=c):Grow n m S (S'.set c d):=⟨by simpa using a.len,fun k hk h1 h2=>by rw[xF (by nofun)];exact a.at_ k hk h1 h2⟩
theorem Deal.lt (h:Deal S n m):n<S.length/\m<S.length:=by
 obtain⟨_,_,_,h⟩:=h
 exact⟨h.lt,h.ltm⟩
theorem Deal.app (h:Deal S n m) (T:Store):Deal (S++T) n m:=by
 have l:=h.lt
 obtain⟨a,b,c,h⟩:=h
 exact⟨a,b,c,⟨by rw[x6 l.1];exact h.d,by rw[x6 l.2];exact h.l,h.ne,h.lo,h.hi⟩⟩
theorem Deal.set {k:Nat}{d:D}(h:Deal S n m) (h1:k≠n) (h2:k≠m):Deal (S.set k d) n m:=by
 obtain⟨a,b,c,h⟩:=h
 exact⟨a,b,c,⟨by rw[xF h1];exact h.d,by rw[xF h2];exact h.l,h.ne,h.lo,h.hi⟩⟩
end
theorem zNv {k:Int}(h0:0<=k) (h:k<1000000):zEe [.int k]=some ⟨(List.range k.toNat).map fun(i:Nat)=>.int (i:Int),[]⟩:=by
 show(if fits62 k=true then some (Walk.mk (zDn 0 k) [])else none)=_
 rw[xc (by unfold fits62;exact xo ⟨by nofun,by nofun⟩)]
 unfold zDn
 simp
theorem zQl {α:Type}[BEq α] [LawfulBEq α]:∀{l m:List α},l.Nodup->(∀x∈l,x∈m)->l.length<=m.length
 | [],_,_,_=>x8 _
 | a::l,m,h,hm=>by
  have hn:=vo.mp h
  have am:=hm a (.head _)
  have:=zQl hn.2 fun x hx=>(List.mem_erase_of_ne fun z=>hn.1 (by subst z;exact hx)).mpr (hm x (.tail _ hx))
  rw[List.length_erase_of_mem am]at this
  have:=List.length_pos_of_mem am
  rw[xA];lia
end
end DS
namespace DS
noncomputable section
open Classical
section
variable {n m c:Nat}{S S' S0:Store}{d:D}
theorem yBf {l:List D}(h:S[c]?=some (.lst l)) (hl:l.length<1000):zB8 S (.ref c) [d]=some (.non,S.set c (.lst (l++[d]))):=by
 unfold zB8
 simp only[h]
 have m9:1000<=most:=by decide
 rw[xc (by nofun)]
theorem ty_D {l:List D}(h:S[c]?=some (.lst l)):tyD S (.ref c)=some "list":=by unfold tyD;rw[show look S (.ref c)=_ from h]
structure MkD (n m:Nat) (S0:Store) (c:Nat) (l:List D) (S:Store):Prop where
 deal:Deal S n m
 grow:Grow n m S0 S
 at_:S[c]?=some (.lst l)
 far:S0.length<=c
theorem MkD.draw {l:List D}(h0:Deal S0 n m) (h:MkD n m S0 c l S) (d:Deal S' n m) (o:Only n m S S'):MkD n m S0 c l S':=by
 have l0:=h0.lt
 have:=h.far
 exact⟨d,h.grow.trans o.grow,by rw[o.at_ c (by nofun) (by nofun)];exact h.at_,h.far⟩
theorem MkD.add {l:List D}(h0:Deal S0 n m) (h:MkD n m S0 c l S) (d:D):MkD n m S0 c (l++[d]) (S.set c (.lst (l++[d]))):=by
 have l0:=h0.lt
 have:=h.far
 exact⟨h.deal.set (by nofun) (by nofun),h.grow.set h.far,by rw[xY (xI.mp h.at_).1],h.far⟩
theorem MkD.new (h0:Deal S0 n m) (d:Deal S n m) (g:Grow n m S0 S) (l:List D):MkD n m S0 S.length l (S++[.lst l]):=⟨d.app _,g.trans (.app _),by simp,g.len⟩
end
end
end DS
namespace DS
noncomputable section
open Classical
theorem zFl {n:Nat}:∀(S T:Store),keeps n S (S++T)
 | [],_=>trivial
 | a::S,T=>⟨.inl rfl,zFl S T⟩
theorem zDz {np nl:Nat}{b:SM}{ds:List D}{S T:Store}{d:D}(hl:ds.length=np) (h:b (ds.map some++List.replicate (nl-np) none) S=.rt d (S++T)) (lo:d.low S.length=true):zAi np nl b ds S=.ok d S:=by
 unfold zAi
 rw[xc hl,h]
 dsimp only
 unfold fin
 rw[xc (zFl S T),xc lo,List.take_left]
theorem zRa {α:Type}{h f:α->D}{gd:List (Nat × D)}{g:GM}{e:EM}{S:Store}{I:Env->Prop}(hg:gOk S gd):∀(xs:List α) (k:Nat) (env:Env),I env->k+xs.length<=most->
  (∀a∈xs,∀env,I env->∃env',g S (h a) env=some env'/\I env'/\e env' S=.ok (f a) S)->zC2 gd g tYes e k (xs.map h) env S=.ok (xs.map f) S
 | [],k,env,_,_,_=>by rw[vB,zC2,xc hg];rfl
 | a::xs,k,env,hi,hk,he=>by
  have hk':k+(xs.length+1)<=most:=hk
  obtain⟨env',e1,e2,e3⟩:=he a (.head _) env hi
  rw[xx,zC2,xc ⟨hg,by nofun⟩,e1]
  dsimp only
  rw[tYes,Rs.bind_ok,xc rfl,e3,Rs.bind_ok,zRa hg xs (k+1) env' e2 (by nofun) fun b hb=>he b (.tail _ hb),Rs.bind_ok]
  rfl
theorem zC1 {α:Type}{h f:α->D}{own:Nat}{ix:List Nat}{i:IM}{gd:List (Nat × D)}{g:GM}{e:EM}{S:Store}{env:Env}{xs:List α}(I:Env->Prop) (hi:i env S=.ok ⟨xs.map h,gd⟩ S) (hg:gOk S gd) (h0:I (compEnv own ix env)) (hk:xs.length<=most)
  (he:∀a∈xs,∀env,I env->∃env',g S (h a) env=some env'/\I env'/\e env' S=.ok (f a) S):zAf own ix i g tYes e env S=.ok (.lst (xs.map f)) S:=by
 rw[zAf,hi,Rs.bind_ok]
 rw[zRa hg xs 0 _ h0 (by nofun) he,Rs.bind_ok]
theorem zM8 {α:Type}{h:α->D}{gd:List (Nat × D)}{g:GM}{b:SM}{ys:List α}(I:List α->Env->Store->Prop) (hg:∀P env S,I P env S->gOk S gd) (he:∀P a R,ys=P++a::R->∀env S,I P env S->∃env' env'' S',g S (h a) env=some env'/\b env' S=.nx env'' S'/\I (P++[a]) env'' S'):∀(xs P:List α) (env:Env) (S:Store),ys=P++xs->I P env S->∃env' S',forL gd g b (xs.map h) env S=.nx env' S'/\I ys env' S'
 | [],P,env,S,e,hi=>⟨env,S,by rw[vB,forL,xc (hg P env S hi)],by rw[e,vh];exact hi⟩
 | a::xs,P,env,S,e,hi=>by
  obtain⟨env',env'',S1,e1,e2,e3⟩:=he P a xs e env S hi
  obtain⟨e4,S2,e5,e6⟩:=zM8 I hg he xs (P++[a]) env'' S1 (by rw[e];simp) e3
  refine⟨e4,S2,?_,e6⟩
  rw[xx,forL,xc (hg P env S hi),e1]
  dsimp only
  rw[e2]
  exact e5
end
end DS
namespace RW
open Classical
section
variable {α:Type}{rs:List (List α)}
theorem yAn {l m:List α}(h:l.Nodup) (s:∀x∈l,x∈m):l.length<=m.length:=by
 letI:BEq α:=instBEqOfDecidableEq
 exact DS.zQl h s
end
end RW
namespace DP
open DS RW TX
open PySem (Str)
noncomputable section
open Classical
noncomputable abbrev Pt:=Int × Int
noncomputable abbrev cel (p:Pt):D:=.tup [.int p.1,.int p.2]
noncomputable abbrev rowD (r:List Pt):D:=.tup (r.map cel)
theorem zMz {p q:Pt}(h:cel p=cel q):p=q:=by
 have:=(uk (D.tup.inj h))
 exact Prod.ext (D.int.inj this.1) (D.int.inj (uk this.2).1)
theorem zEj {p:Pt}{l:List Pt}:cel p∈l.map cel <-> p∈l:=⟨fun h=>by obtain⟨q,hq,e⟩:=xB.mp h;rw[<- zMz e];exact hq,fun h=>xB.mpr ⟨p,h,rfl⟩⟩
theorem zFi (p:Pt):lv 1 (cel p):=⟨_,rfl,fun x hx=>by
 rcases xk.mp hx with rfl|hx
 ·exact⟨p.1,rfl⟩
 ·exact⟨p.2,xV.mp hx⟩⟩
theorem zEk (l:List Pt):∀y∈l.map cel,lv 1 y:=fun y hy=>by obtain⟨p,_,rfl⟩:=xB.mp hy;exact zFi p
theorem zD1 {k:Nat}:∀(l:List Pt),lowL k (l.map cel)=true
 | []=>rfl
 | p::l=>by show((cel p).low k && lowL k (l.map cel))=true;rw[zD1 l];rfl
theorem zA6 {a b:SM}{env e:Env}{S S1:Store}{r:SR}(h:a env S=.nx e S1) (h':b e S1=r):sSeq a b env S=r:=by rw[sSeq,h];exact h'
theorem zAt {a b:SM}{env:Env}{S S1:Store}{d:D}(h:a env S=.rt d S1):sSeq a b env S=.rt d S1:=by rw[sSeq,h]
theorem tru {S:Store}{b:Bool}:truth S (.bl b)=some b:=rfl
theorem zG3 {α:Type}{p:α->Bool}:∀l:List α,bools (l.map fun x=>D.bl (p x))=some (l.map p)
 | []=>rfl
 | a::l=>by
  have:=zG3 (p:=p) l
  show(bools (l.map fun x=>D.bl (p x))).map (p a::·)=_
  rw[this];rfl
theorem zNa {α:Type}{S:Store}{p:α->Prop}[DecidablePred p] (l:List α) [Decidable (∀x∈l,p x)]:allB S [.lst (l.map fun x=>.bl (decide (p x)))]=some (.bl (decide (∀x∈l,p x))):=by
 show((bools (l.map fun x=>D.bl (decide (p x)))).map fun bs=>D.bl (bs.all id))=_
 rw[zG3]
 show some (D.bl _)=_
 congr 2
 rw[uN,xO,decide_eq_true_iff]
 simp
theorem zBu {t:TM}{a b:SM}{env:Env}{S:Store}{q:SR}(h:t env S=.ok false S) (h2:b env S=q):sIf t a b env S=q:=by
 rw[sIf,h,Rs.then_ok,xf (by decide)];exact h2
theorem zAk {t:TM}{a b:SM}{env:Env}{S:Store}{q:SR}(h:t env S=.ok true S) (h2:a env S=q):sIf t a b env S=q:=by
 rw[sIf,h,Rs.then_ok,xc rfl];exact h2
theorem zNg {S:Store}{l:List D}:zCg S (.lst l)=some ⟨l,[]⟩:=rfl
theorem zDu {e:EM}{env:Env}{S:Store}{l:List D}(h:e env S=.ok (.lst l) S):iVal e env S=.ok ⟨l,[]⟩ S:=by rw[iVal,h,Rs.bind_ok,zNg];rfl
theorem le_int {S:Store}{x y:Int}:leD S (.int x) (.int y)=some (.bl (decide (x<=y))):=rfl
theorem zMy {l:List D}(h:∀x∈l,∃p,x=cel p):∃ps:List Pt,l=ps.map cel:=by
 induction l with
 | nil=>exact⟨[],rfl⟩
 | cons x l ih=>
  obtain⟨p,rfl⟩:=h x (.head _)
  obtain⟨ps,e⟩:=ih fun y hy=>h y (.tail _ hy)
  exact⟨p::ps,by rw[e];rfl⟩
theorem nd_cel {l:List Pt}:(l.map cel).Nodup <-> l.Nodup:=⟨fun h=>(List.pairwise_map.mp h).imp fun {a b} h z=>h (by rw[z]),fun h=>List.pairwise_map.mpr (h.imp fun {a b} h z=>h (zMz z))⟩
structure Sr (l cs:List Pt):Prop where
 eq:srt (l.map cel)=cs.map cel
 up:Up (cs.map cel)
 mem:∀p,p∈cs <-> p∈l
 len:cs.length=l.length
 nd:l.Nodup->cs.Nodup
theorem zVu (l:List Pt):∃cs,Sr l cs:=by
 have pm:=zBo (l.map cel)
 obtain⟨cs,e⟩:=zMy (l:=srt (l.map cel)) fun x hx=>by
  obtain⟨p,_,rfl⟩:=xB.mp (pm.mem_iff.mp hx)
  exact⟨p,rfl⟩
 refine⟨cs,e,by rw[<- e];exact zHm (n:=1) (zEk l),fun p=>?_,?_,fun h=>nd_cel.mp (by rw[<- e];exact pm.nodup_iff.mpr (nd_cel.mpr h))⟩
 ·rw[<- zEj (l:=cs),<- e,pm.mem_iff,zEj]
 ·have:=pm.length_eq
  rw[e,xq,xq]at this
  exact this
noncomputable def sr (l:List Pt):List Pt:=choose (zVu l)
theorem zZs (l:List Pt):Sr l (sr l):=choose_spec (zVu l)
theorem drawn {S:Store}{n m:Nat}{many:Int}(hm:0<many) (h9:many<2147483648) (h:Deal S n m):∃(r:Int) (S':Store),zA3 [.ref n,.int many] S=.ok (.int r) S'/\0<=r/\r<many/\Deal S' n m/\Only n m S S':=zMk hm (zCa (by nofun) h9) h
theorem zS1 {n:Nat}(h:n<=1000):zEe [.int (n:Nat)]=some ⟨(List.range n).map fun(i:Nat)=>.int (i:Int),[]⟩:=by
 obtain⟨k,hk⟩:∃k:Int,k=(n:Int):=⟨_,rfl⟩
 rw[<- hk,zNv (by nofun) (by nofun),show k.toNat=n by nofun]
theorem zFn {e:EM}{env:Env}{S S':Store}{n:Nat}(h:e env S=.ok (.int (n:Nat)) S') (hn:n<=1000):zFo (zA0 e aNil) env S=.ok ⟨(List.range n).map fun(i:Nat)=>.int (i:Int),[]⟩ S':=by
 unfold zFo zA0 aNil
 rw[h,Rs.bind_ok,Rs.bind_ok,Rs.bind_ok,zS1 hn]
 rfl
theorem zU1 {v:Bool}{S:Store}:fin [] (.bl v) S=.ok (.bl v) []:=by
 unfold fin
 rw[xc (show keeps ([]:Store).length [] S from trivial),xc (show(D.bl v).low ([]:Store).length=true from rfl)]
 rfl
noncomputable def plt (p q:Pt):Prop:=p.1<q.1\/p.1=q.1/\p.2<q.2
theorem zN7 {p q:Pt}:blt (cel p) (cel q)=decide (plt p q):=by
 unfold cel
 rw[blt,zAd,zAd]
 by_cases h1:p.1=q.1
 ·rw[xc (by rw[h1])]
  by_cases h2:p.2=q.2
  ·rw[xc (by rw[h2]),bltL]
   exact(xl fun z=>by unfold plt at z;lia).symm
  ·rw[xf fun z=>h2 (by injection z),blt]
   apply xS.mpr
   unfold plt;lia
 ·rw[xf fun z=>h1 (by injection z),blt]
  apply xS.mpr
  unfold plt;lia
theorem zVt {l:List Pt}(hl:l.length<=63):∃cs:List Pt,(∀(S:Store) (c:Nat),S[c]?=some (.lst (l.map cel))->ssK S (.ref c)=some (.lst (cs.map cel)))/\Up (cs.map cel)/\cs.Nodup/\(∀p,p∈cs <-> p∈l)/\cs.length<=l.length:=by
 obtain⟨u,eu⟩:=zMy (l:=dedup (l.map cel)) fun x hx=>by
  obtain⟨p,_,rfl⟩:=xB.mp (mem_dedup.mp hx)
  exact⟨p,rfl⟩
 have un:u.Nodup:=nd_cel.mp (by rw[<- eu];exact zCr)
 have um:∀p,p∈u <-> p∈l:=fun p=>by rw[<- zEj (l:=u),<- eu,mem_dedup,zEj]
 have k:=zZs u
 refine⟨sr u,fun S c at_=>?_,k.up,k.nd un,fun p=>(k.mem p).trans (um p),by rw[k.len];exact yAn un fun p hp=>(um p).mp hp⟩
 unfold ssK
 rw[show litems S (.ref c)=some (l.map cel) by unfold litems;simp only[show look S (.ref c)=some (.lst (l.map cel))from at_]]
 dsimp only
 rw[xc ⟨by rw[xq];exact xp hl (by decide),0,by decide,zEk l⟩,eu,k.eq]
theorem zQn (a b:Str):ls (a++b)=ls a++ls b:=by show(a.cps++b.cps).toList=_;simp
theorem add_str {a b:Str}(h:a.length+b.length<=1000000):(if a.length+b.length<=most then some (D.str (a++b))else none)=some (.str (a++b)):=xc (xp h (by decide))
theorem zLi {g:Store->D->List D->Option (D × Store)}{o:EM}{z:Str}{a:AM}{env:Env}{S:Store}{ds:List D}{r:D}(ho:o env S=.ok (.str z) S) (ha:a env S=.ok ds S) (hg:g S (.str z) ds=some (r,S)):eMt "str" g o a env S=.ok r S:=by
 rw[eMt,ho,Rs.bind_ok,xc (show tyD S (.str z)=some "str" from rfl),ha,Rs.bind_ok,hg]
 rfl
theorem zDd {e:EM}{env:Env}{S S1:Store}{d:D}(h:e env S=.ok d S1):zA0 e aNil env S=.ok [d] S1:=by rw[zA0,h];rfl
theorem zTo {S:Store}{sep:Str}{ys:List Str}(h1:sep.length<=16) (h2:(ys.map fun y:Str=>y.length).sum+ys.length<=1048576):joinM S (.str sep) [.lst (ys.map D.str)]=some (.str (PySem.Txt.join sep ys),S):=by
 show(match strsOf (ys.map D.str)with|some ys=>if sep.length<=16/\(ys.map fun y:Str=>y.length).sum+ys.length<=1048576 then some (D.str (PySem.Txt.join sep ys),S)else none|none=>none)=_
 rw[zDl]
 show(if sep.length<=16/\(ys.map fun y:Str=>y.length).sum+ys.length<=1048576 then some (D.str (PySem.Txt.join sep ys),S)else none)=_
 rw[xc ⟨h1,h2⟩]
end
end DP
namespace DP
open DS RW TX
open PySem (Str)
open PySem.NumText (digitsVal)
noncomputable section
open Classical
structure Tx (n:Nat) (t:Str):Prop where
 len:(ls t).length<=n
 asc:∀c∈ls t,c<128
theorem Tx.le {n m:Nat}{t:Str}(h:Tx n t) (e:n<=m):Tx m t:=⟨xp h.len e,h.asc⟩
theorem Tx.z {n:Nat}{t:Str}(h:Tx n t):t.length<=n:=by rw[zBi];exact h.len
noncomputable abbrev sgn (c:Nat):Str:=⟨#[c]⟩
noncomputable abbrev st (l:List Nat):Str:=⟨l.toArray⟩
theorem zBx (l:List Nat):ls (st l)=l:=by simp
theorem zVs (w:Str):st (ls w)=w:=zE8 (zBx _)
noncomputable def figL (w:Str):List Nat:=if(ls w).head?=some 45 then(ls w).drop 1 else ls w
noncomputable def isN (w:Str):Prop:=(1<=(figL w).length/\(figL w).length<=19)/\(∀c∈figL w,48<=c/\c<=57)/\(w=Str.ofString "0"\/(figL w).head?≠some 48)
noncomputable def sg (w:Str):Int:=if(ls w).head?=some 45 then -1 else 1
noncomputable def val (w:Str):Int:=(digitsVal (figL w):Nat)*sg w
theorem zIa {n:Nat}{w:Str}(h:Tx n w):(figL w).length<=n:=by
 have:=h.len
 unfold figL
 split
 ·rw[vq];lia
 ·exact this
theorem zIb {n:Nat}{w:Str}(h:Tx n w):∀c∈figL w,c<128:=by
 unfold figL
 split
 ·exact fun c hc=>h.asc c (List.mem_of_mem_drop hc)
 ·exact h.asc
theorem zR9 {α:Type}(l:List α) {a:Int}(h:0<=a):cutL l (some a) none=l.drop a.toNat:=by
 unfold cutL sIx
 dsimp only
 rw[xf (by nofun)]
 rcases Nat.le_total a.toNat l.length with c|c
 ·rw[Nat.min_eq_left c,vW (by rw[vq];lia)]
 ·rw[Nat.min_eq_right c,List.drop_of_length_le (xh _),List.drop_of_length_le c,List.take_nil]
theorem zZh {α:Type}(l:List α) {b:Int}(h:0<=b):cutL l none (some b)=l.take b.toNat:=by
 unfold cutL sIx
 dsimp only
 rw[xf (by nofun),List.drop_zero]
 rcases Nat.le_total b.toNat l.length with c|c
 ·rw[Nat.min_eq_left c];rfl
 ·rw[Nat.min_eq_right c,vW (by nofun),vW c]
theorem zNq {S:Store}{w:Str}{a:Int}(h:Tx 100000 w) (ha:0<=a):slS S (.str w) (some a) none=some (.str (st ((ls w).drop a.toNat))):=by
 show(if _ then some (D.str ⟨(cutL (ls w) (some a) none).toArray⟩)else none)=_
 rw[xc ⟨(fun v e=>by cases e;exact ha),(fun v e=>by cases e),h.z⟩,zR9 _ ha]
theorem zVv {S:Store}{w:Str}{b:Int}(h:Tx 100000 w) (ha:0<=b):slS S (.str w) none (some b)=some (.str (st ((ls w).take b.toNat))):=by
 show(if _ then some (D.str ⟨(cutL (ls w) none (some b)).toArray⟩)else none)=_
 rw[xc ⟨(fun v e=>by cases e),(fun v e=>by cases e;exact ha),h.z⟩,zZh _ ha]
theorem sw (w:Str):PySem.Txt.startswith w sM=decide ((ls w).head?=some 45):=by
 cases e:ls w with
 | nil=>
  have:w.length=0:=by rw[zBi,e];rfl
  unfold PySem.Txt.startswith
  rw[this,xl (by decide)]
  rfl
 | cons a b=>
  unfold PySem.Txt.startswith
  have h1:decide (0+sM.length<=w.length)=true:=xo (by rw[zBi w,e];show 1<=_;simp)
  rw[h1,Bool.true_and]
  unfold PySem.Builtin.Str.subAt
  have h2:w.cps.extract 0 (0+sM.length)=#[a]:=by
   apply Array.toList_inj.mp
   rw[Array.toList_extract]
   show List.take (0+1-0) (List.drop 0 (ls w))=[a]
   rw[e];rfl
  rw[h2]
  show(#[a] == (sM).cps)=_
  rw[eM]
  rw[uN]
  simp
theorem zQp {S:Store}{l:List Nat}(h:l.length<=100000):lenB S [.str (st l)]=some (.int (l.length:Nat)):=by
 have e:(st l).length=l.length:=by rw[zBi,zBx]
 show(if(st l).length<=most then some (D.int ((st l).length:Nat))else none)=_
 rw[e,xc (xp h (by decide))]
theorem zV4 {l:List Nat}(h:∀c∈l,c<128):(st l).cps.all (·<128)=true:=by
 rw[<- Array.all_toList,xO]
 intro c hc
 exact xo (h c (by simpa using hc))
theorem zRg {S:Store}{l:List Nat}(h:∀c∈l,c<128):zCg S (.str (st l))=some ⟨l.map fun c=>.str (sgn c),[]⟩:=by
 show(if(st l).cps.all (·<128)then some (Walk.mk (chars (st l)) [])else none)=_
 rw[xc (zV4 h)]
 unfold chars
 rw[show(st l).cps.toList=l from zBx l]
theorem zM1 {S:Store}{e:EM}{env:Env}{l:List Nat}(he:e env S=.ok (.str (st l)) S) (h:∀c∈l,c<128):iVal e env S=.ok ⟨l.map fun c=>.str (sgn c),[]⟩ S:=by
 rw[iVal,he,Rs.bind_ok,zRg h]
 rfl
theorem zY0 {S:Store}{c:Nat}{l:List Nat}(h:(c::l).length<=100000):ixD S (.str (st (c::l))) (.int 0)=some (.str (sgn c)):=by
 have e:(st (c::l)).length=(c::l).length:=by rw[zBi,zBx]
 show(if(st (c::l)).length<=most then(atL (st (c::l)).cps.toList 0).map fun c=>D.str ⟨#[c]⟩else none)=_
 rw[e,xc (xp h (by decide)),show(st (c::l)).cps.toList=c::l from zBx _]
 unfold atL ixN
 rw[xc (by decide),xc (by rw[xA];lia)]
 rfl
theorem le_0 {S:Store}{x:Nat}:leD S (.str (PySem.Str.ofString "0")) (.str (sgn x))=some (.bl (decide (48<=x))):=by
 show some (D.bl (!decide ([x]<[48])))=_
 rw[<- decide_not]
 congr 2
 apply xS.mpr
 rw[List.cons_lt_cons_iff]
 simp
theorem le_9 {S:Store}{x:Nat}:leD S (.str (sgn x)) (.str (PySem.Str.ofString "9"))=some (.bl (decide (x<=57))):=by
 show some (D.bl (!decide ([57]<[x])))=_
 rw[<- decide_not]
 congr 2
 apply xS.mpr
 rw[List.cons_lt_cons_iff]
 simp
theorem zD7 {S:Store}{a b:Str}:eqY S (.str a) (.str b)=some (.bl (decide (a=b))):=rfl
theorem zLh {S:Store}{a b:Str}:neK S (.str a) (.str b)=some (.bl (!decide (a=b))):=rfl
theorem sg0 {c:Nat}:sgn c=Str.ofString "0" <-> c=48:=⟨fun h=>by
 have:=congrArg ls h
 rw[show ls (sgn c)=[c]from rfl,show ls (Str.ofString "0")=[48]from rfl]at this
 exact(uk this).1,fun h=>by rw[h];rfl⟩
theorem zXg {S:Store}{w:Str}(h:Tx 100000 w):zB4 [.str w,.int 19] S=.ok (.bl (decide (isN w))) S:=by
 refine zBe rfl ?_ rfl
 have fl:=zIa h
 have fa:=zIb h
 have x1:sSet 2 (eIf (tTru (eMt "str" startM (eVar 0) (zA0 (eC (.str (PySem.Str.ofString "-"))) aNil))) (eSl slS (eVar 0) (pYes (eC (.int 1))) pNo) (eVar 0)) [some (.str w),some (.int 19),none] S=.nx [some (.str w),some (.int 19),some (.str (st (figL w)))] S:=by
  have m:eMt "str" startM (eVar 0) (zA0 (eC (.str (PySem.Str.ofString "-"))) aNil) [some (.str w),some (.int 19),none] S=.ok (.bl (decide ((ls w).head?=some 45))) S:=zLi rfl (zDd rfl) (by show some (D.bl (PySem.Txt.startswith w sM),S)=_;rw[sw])
  rw[sSet,eIf,tTru,m,Rs.bind_ok]
  by_cases c:(ls w).head?=some 45
  ·rw[xo c]
   have sl:=zNq (S:=S) h (show(0:Int)<=1 by decide)
   have ef:figL w=(ls w).drop 1:=xc c
   rw[ef]
   simp_arith [tru,sl]
   rfl
  ·rw[xl c,show figL w=ls w from xf c,zVs]
   simp_arith [tru]
 refine zA6 x1 ?_
 have t1:tB (zAy leD leD (eC (.int 1)) (eCB lenB (zA0 (eVar 2) aNil)) (eVar 1)) [some (.str w),some (.int 19),some (.str (st (figL w)))] S=.ok (decide (1<=(figL w).length/\(figL w).length<=19)) S:=by
  have ln:=zQp (S:=S) fl
  by_cases c1:1<=(figL w).length
  ·have l1:leD S (.int 1) (.int ((figL w).length:Nat))=some (.bl true):=by rw[le_int,xo (by nofun)]
   have l2:leD S (.int ((figL w).length:Nat)) (.int 19)=some (.bl (decide (1<=(figL w).length/\(figL w).length<=19))):=by rw[le_int];congr 2;exact xS.mpr (by nofun)
   simp_arith [zAy,ln,l1,l2]
  ·have l1:leD S (.int 1) (.int ((figL w).length:Nat))=some (.bl false):=by rw[le_int,xl (by nofun)]
   rw[xl fun z=>c1 z.1]
   simp_arith [zAy,ln,l1]
 by_cases c1:1<=(figL w).length/\(figL w).length<=19
 ·rw[xo c1]at t1
  refine zA6 (e:=[some (.str w),some (.int 19),some (.str (st (figL w)))]) (S1:=S) (zBu (by rw[tNot,t1];rfl) rfl) ?_
  have c:(zAf 1 [] (iVal (eVar 2)) (gName 0) tYes (zAy leD leD (eC (.str (PySem.Str.ofString "0"))) (eVar 0) (eC (.str (PySem.Str.ofString "9"))))) [some (.str w),some (.int 19),some (.str (st (figL w)))] S=.ok (.lst ((figL w).map fun c=>.bl (decide (48<=c/\c<=57)))) S:=by
   refine zC1 (xs:=figL w) (h:=fun c=>.str (sgn c)) (gd:=[]) (fun env=>∃o,env=[o]) (zM1 rfl fa) zAh ⟨none,rfl⟩ (xp fl (by decide)) ?_
   rintro x hx env ⟨o,rfl⟩
   refine⟨[some (.str (sgn x))],rfl,⟨_,rfl⟩,?_⟩
   have l1:=le_0 (S:=S) (x:=x)
   have l2:=le_9 (S:=S) (x:=x)
   by_cases b:48<=x
   ·rw[xo b]at l1
    rw[show decide (48<=x/\x<=57)=decide (x<=57)from xS.mpr (by nofun)]
    simp_arith [zAy,l1,l2]
   ·rw[xl b]at l1
    rw[xl fun z=>b z.1]
    simp_arith [zAy,l1]
  have al:=zNa (S:=S) (p:=fun c:Nat=>48<=c/\c<=57) (figL w)
  have t2:tTru (eCB allB (zA0 (zAf 1 [] (iVal (eVar 2)) (gName 0) tYes (zAy leD leD (eC (.str (PySem.Str.ofString "0"))) (eVar 0) (eC (.str (PySem.Str.ofString "9"))))) aNil)) [some (.str w),some (.int 19),some (.str (st (figL w)))] S=.ok (decide (∀c∈figL w,48<=c/\c<=57)) S:=by
   rw[tTru,eCB,zDd c,Rs.bind_ok,al]
   rfl
  by_cases c2:∀c∈figL w,48<=c/\c<=57
  ·rw[xo c2]at t2
   refine zA6 (e:=[some (.str w),some (.int 19),some (.str (st (figL w)))]) (S1:=S) (zBu (by rw[tNot,t2];rfl) rfl) ?_
   have e0:=zD7 (S:=S) (a:=w) (b:=Str.ofString "0")
   by_cases z:w=Str.ofString "0"
   ·rw[xo z]at e0
    rw[xo ⟨c1,c2,.inl z⟩]
    simp_arith [e0]
   ·rw[xl z]at e0
    cases ef:figL w with
    | nil=>rw[ef]at c1;exact absurd c1.1 (by simp)
    | cons cc r=>
     rw[ef]at fl
     have ix:=zY0 (S:=S) fl
     have ne:=zLh (S:=S) (a:=sgn cc) (b:=Str.ofString "0")
     have fin:decide (isN w)=!decide (sgn cc=Str.ofString "0"):=by
      rw[<- decide_not]
      apply xS.mpr
      unfold isN
      rw[sg0,ef,List.head?_cons]
      rw[ef]at c1 c2
      exact⟨fun q e=>by
       rcases q.2.2 with q|q
       ·exact z q
       ·exact q (by rw[e]),fun q=>⟨c1,c2,.inr fun e=>q (xD e)⟩⟩
     rw[fin]
     simp_arith [e0,ix,ne]
  ·rw[xl c2]at t2
   rw[xl fun z=>c2 z.2.1]
   exact zAt (zAk (by rw[tNot,t2];rfl) rfl)
 ·rw[xl c1]at t1
  rw[xl fun z=>c1 z.1]
  exact zAt (zAk (by rw[tNot,t1];rfl) rfl)
theorem int_is {S:Store}{w:Str}(h:isN w):intS S [.str w]=some (.int (val w)):=by
 obtain⟨⟨h1,h2⟩,h3,_⟩:=h
 have lw:w.length<=20:=by
  rw[zBi]
  unfold figL at h2
  split at h2
  ·rw[vq]at h2;lia
  ·lia
 have hne:figL w≠[]:=fun e=>by rw[e]at h1;simp at h1
 have e:PySem.intText? w=some (val w):=by
  unfold val sg
  by_cases c:(ls w).head?=some 45
  ·rw[xc c]
   have ef:figL w=(ls w).drop 1:=xc c
   have el:ls w=45::figL w:=by
    rw[ef]
    cases q:ls w with
    | nil=>rw[q]at c;cases c
    | cons a b=>rw[q]at c;rw[show a=45 from xD c];rfl
   rw[PySem.intText_neg el h3 hne (xp lw (by decide))]
   congr 1
   lia
  ·rw[xf c]
   have ef:figL w=ls w:=xf c
   rw[ef]at h3 hne ⊢
   rw[PySem.intText_digits h3 hne (xp lw (by decide))]
   congr 1
   show((digitsVal (ls w):Nat):Int)=_
   lia
 show(match PySem.intText? w with|some m=>if w.length<=640 then some (D.int m)else none|none=>none)=_
 rw[e]
 show(if w.length<=640 then some (D.int (val w))else none)=_
 rw[xc (xp lw (by decide))]
end
end DP
namespace DP
open DS RW TX
open PySem (Str)
open PySem.NumText (digitsVal)
noncomputable section
open Classical
noncomputable abbrev sDig:Str:=PySem.Str.ofString "0123456789"
theorem zY5:∀c:Nat,c<128->(!(PySem.Builtin.Str.occurrences sDig (sgn c) 0 sDig.length 1).isEmpty)=decide (48<=c/\c<=57):=by decide +kernel
theorem zLf {S:Store}{c:Nat}(h:c<128):zFh S (.str (sgn c)) (.str sDig)=some (.bl (!decide (48<=c/\c<=57))):=by
 show some (D.bl (!(!(PySem.Builtin.Str.occurrences sDig (sgn c) 0 sDig.length 1).isEmpty)))=_
 rw[zY5 c h]
noncomputable abbrev nB:SM:=(sSeq (sIf (tB (eOp zFh (eVar 4) (eC (.str (PySem.Str.ofString "0123456789"))))) (sRet (eC .non)) zAv)
  (sSet 3 (eOp subD (eOp addD (eOp mulD (eVar 3) (eC (.int 10))) (eCB ordB (zA0 (eVar 4) aNil))) (eC (.int 48)))))
theorem yAe {S:Store}{c:Nat}:ordB S [.str (sgn c)]=some (.int (c:Nat)):=by
 show(if(sgn c).length=1 then some (D.int ((sgn c).cps.getD 0 0:Nat))else none)=_
 rw[xc (show(sgn c).length=1 from rfl)];rfl
noncomputable abbrev stp (a c:Nat):Nat:=a*10+(c-48)
theorem zXi {S:Store}{d0 d1 d2:D}{o4:Option D}{a c:Nat}(hc:c<128) (ha:a<10 ^ 40):
  nB [some d0,some d1,some d2,some (.int (a:Nat)),some (.str (sgn c))] S=if 48<=c/\c<=57 then .nx [some d0,some d1,some d2,some (.int (stp a c:Nat)),some (.str (sgn c))] S else .rt .non S:=by
 have ni:=zLf (S:=S) hc
 by_cases b:48<=c/\c<=57
 ·rw[xo b]at ni
  rw[xc b]
  refine zA6 (e:=[some d0,some d1,some d2,some (.int (a:Nat)),some (.str (sgn c))]) (S1:=S) (zBu (by simp_arith [ni]) rfl) ?_
  have ha2:(a:Int)<10 ^ 40:=by exact_mod_cast ha
  have mu:mulD S (.int (a:Nat)) (.int 10)=some (.int ((a:Nat)*10)):=zBv ⟨zCx (by have:=ha2;lia) (by have:=ha2;lia),zCx (by decide) (by decide)⟩
  have or:=yAe (S:=S) (c:=c)
  simp_arith [mu,or]
  have e:(a:Int)*10+(c:Int)-48=((stp a c:Nat):Int):=by show _=((a*10+(c-48):Nat):Int);lia
  rw[e]
 ·rw[xl b]at ni
  rw[xf b]
  exact zAt (zAk (by simp_arith [ni]) rfl)
theorem zQm {S:Store}{d0 d1 d2:D}:∀(l:List Nat) (a k:Nat) (o4:Option D),(∀c∈l,c<128)->a<10 ^ k->k+l.length<=30->
  ((∀c∈l,48<=c/\c<=57)->∃o',forL [] (gName 4) nB (l.map fun c=>.str (sgn c)) [some d0,some d1,some d2,some (.int (a:Nat)),o4] S=.nx [some d0,some d1,some d2,some (.int ((l.foldl stp a:Nat):Int)),o'] S) /\
  ((¬ ∀c∈l,48<=c/\c<=57)->forL [] (gName 4) nB (l.map fun c=>.str (sgn c)) [some d0,some d1,some d2,some (.int (a:Nat)),o4] S=.rt .non S)
 | [],a,k,o4,_,_,_=>⟨fun _=>⟨o4,by unfold forL;rw[vB];exact xc zAh⟩,fun h=>absurd (fun c hc=>nomatch hc) h⟩
 | c::l,a,k,o4,h,ha,hk=>by
  have hc:=h c (.head _)
  rw[xA]at hk
  have st:=zXi (S:=S) (d0:=d0) (d1:=d1) (d2:=d2) (o4:=none) hc (xv ha (Nat.pow_le_pow_right (by decide) (show k<=40 by nofun)))
  have un:forL [] (gName 4) nB ((c::l).map fun c=>.str (sgn c)) [some d0,some d1,some d2,some (.int (a:Nat)),o4] S=(match nB [some d0,some d1,some d2,some (.int (a:Nat)),some (.str (sgn c))] S with
   | .nx e S1=>forL [] (gName 4) nB (l.map fun c=>.str (sgn c)) e S1
   | .ct e S1=>forL [] (gName 4) nB (l.map fun c=>.str (sgn c)) e S1
   | .bk e S1=>.nx e S1
   | q=>q):=by
   rw[xx]
   conv=>lhs;unfold forL
   rw[xc zAh]
   rfl
  by_cases b:48<=c/\c<=57
  ·rw[xc b]at st
   have ha':stp a c<10 ^ (k+1):=by show a*10+(c-48)<_;rw[Nat.pow_succ];lia
   obtain⟨i1,i2⟩:=zQm (S:=S) (d0:=d0) (d1:=d1) (d2:=d2) l (stp a c) (k+1) (some (.str (sgn c))) (fun c hc=>h c (.tail _ hc)) ha' (by nofun)
   rw[un,st]
   refine⟨fun q=>i1 fun c hc=>q c (.tail _ hc),fun q=>i2 fun z=>q fun c' hc'=>?_⟩
   rcases xk.mp hc' with e|e
   ·rw[e];exact b
   ·exact z c' e
  ·rw[xf b]at st
   rw[un,st]
   exact⟨fun q=>absurd (q c (.head _)) b,fun _=>rfl⟩
noncomputable def nmD (w:Str):D:=if isN w then .int (val w)else .non
theorem law_num {S:Store}{w:Str}(h:Tx 100000 w):zAe [.str w] S=.ok (nmD w) S:=by
 have fl:=zIa h
 have fa:=zIb h
 refine zBe rfl ?_ (by unfold nmD;split <;> rfl)
 refine zA6 (e:=[some (.str w),some (.int 1),some (.str w),none,none]) (S1:=S) (by simp_arith [xn]) ?_
 have x1:sIf (tB (eOp eqY (eSl slS (eVar 0) pNo (pYes (eC (.int 1)))) (eC (.str (PySem.Str.ofString "-"))))) (sPar [1,2] (zA0 (eUn negD (eC (.int 1))) (zA0 (eSl slS (eVar 0) (pYes (eC (.int 1))) pNo) aNil))) zAv [some (.str w),some (.int 1),some (.str w),none,none] S=.nx [some (.str w),some (.int (sg w)),some (.str (st (figL w))),none,none] S:=by
  have s1:=zVv (S:=S) h (show(0:Int)<=1 by decide)
  have e1:=zD7 (S:=S) (a:=st ((ls w).take (1:Int).toNat)) (b:=Str.ofString "-")
  have q:decide (st ((ls w).take (1:Int).toNat)=Str.ofString "-")=decide ((ls w).head?=some 45):=by
   apply xS.mpr
   constructor
   ·intro z
    have:=congrArg ls z
    rw[zBx,show ls (Str.ofString "-")=[45]from rfl]at this
    cases e:ls w with
    | nil=>rw[e]at this;cases this
    | cons a b=>rw[e]at this;rw[List.head?_cons];rw[(uk this).1]
   ·intro z
    refine zE8 ?_
    rw[zBx,show ls (Str.ofString "-")=[45]from rfl]
    cases e:ls w with
    | nil=>rw[e]at z;cases z
    | cons a b=>rw[e]at z;rw[show a=45 from xD z];rfl
  rw[q]at e1
  by_cases c:(ls w).head?=some 45
  ·rw[xo c]at e1
   have s2:=zNq (S:=S) h (show(0:Int)<=1 by decide)
   have ef:figL w=(ls w).drop (1:Int).toNat:=xc c
   have eg:sg w=-1:=xc c
   have ng:negD S (.int 1)=some (.int (-1)):=rfl
   rw[ef,eg]
   exact zAk (by simp_arith [s1,e1]) (by simp_arith [ng,s2])
  ·rw[xl c]at e1
   rw[show figL w=ls w from xf c,zVs,show sg w=1 from xf c]
   exact zBu (by simp_arith [s1,e1]) rfl
 refine zA6 x1 ?_
 have ln:=zQp (S:=S) fl
 have t1:tB (zAy ltN ltN (eC (.int 0)) (eCB lenB (zA0 (eVar 2) aNil)) (eC (.int 20))) [some (.str w),some (.int (sg w)),some (.str (st (figL w))),none,none] S=.ok (decide (1<=(figL w).length/\(figL w).length<=19)) S:=by
  by_cases c1:1<=(figL w).length
  ·have l1:ltN S (.int 0) (.int ((figL w).length:Nat))=some (.bl true):=by show some (D.bl (decide ((0:Int)<((figL w).length:Nat))))=_;rw[xo (by nofun)]
   have l2:ltN S (.int ((figL w).length:Nat)) (.int 20)=some (.bl (decide (1<=(figL w).length/\(figL w).length<=19))):=by show some (D.bl (decide (((figL w).length:Int)<20)))=_;congr 2;exact xS.mpr (by nofun)
   simp_arith [zAy,ln,l1,l2]
  ·have l1:ltN S (.int 0) (.int ((figL w).length:Nat))=some (.bl false):=by show some (D.bl (decide ((0:Int)<((figL w).length:Nat))))=_;rw[xl (by nofun)]
   rw[xl fun z=>c1 z.1]
   simp_arith [zAy,ln,l1]
 unfold nmD
 by_cases c1:1<=(figL w).length/\(figL w).length<=19
 ·rw[xo c1]at t1
  have t2:tAnd (tB (eOp eqY (eOp ixD (eVar 2) (eC (.int 0))) (eC (.str (PySem.Str.ofString "0"))))) (tB (eOp neK (eVar 0) (eC (.str (PySem.Str.ofString "0"))))) [some (.str w),some (.int (sg w)),some (.str (st (figL w))),none,none] S=.ok (decide (¬ (w=Str.ofString "0"\/(figL w).head?≠some 48))) S:=by
   cases ef:figL w with
   | nil=>rw[ef]at c1;exact absurd c1.1 (by simp)
   | cons cc r=>
    rw[ef]at fl
    have ix:=zY0 (S:=S) fl
    have e1:=zD7 (S:=S) (a:=sgn cc) (b:=Str.ofString "0")
    have ne:=zLh (S:=S) (a:=w) (b:=Str.ofString "0")
    rw[List.head?_cons]
    by_cases z:sgn cc=Str.ofString "0"
    ·rw[xo z]at e1
     have zc:=sg0.mp z
     have q:decide (¬ (w=Str.ofString "0"\/some cc≠some 48))=!decide (w=Str.ofString "0"):=by
      rw[<- decide_not]
      exact xS.mpr ⟨fun a b=>a (.inl b),fun a b=>b.elim a fun b=>b (by rw[zc])⟩
     rw[q]
     simp_arith [ix,e1,ne]
    ·rw[xl z]at e1
     rw[xl fun q=>q (.inr fun e=>z (sg0.mpr (xD e)))]
     simp_arith [ix,e1]
  by_cases c3:w=Str.ofString "0"\/(figL w).head?≠some 48
  ·rw[xl (fun q=>q c3)]at t2
   refine zA6 (e:=[some (.str w),some (.int (sg w)),some (.str (st (figL w))),none,none]) (S1:=S) (zBu (by rw[tOr,tNot,t1,Rs.bind_ok,Rs.bind_ok];exact t2) rfl) ?_
   refine zA6 (e:=[some (.str w),some (.int (sg w)),some (.str (st (figL w))),some (.int ((0:Nat):Int)),none]) (S1:=S) (by simp_arith [xn];rfl) ?_
   obtain⟨i1,i2⟩:=zQm (S:=S) (d0:=.str w) (d1:=.int (sg w)) (d2:=.str (st (figL w))) (figL w) 0 0 none fa (by decide) (by nofun)
   have iv:iVal (eVar 2) [some (.str w),some (.int (sg w)),some (.str (st (figL w))),some (.int ((0:Nat):Int)),none] S=.ok ⟨(figL w).map fun c=>.str (sgn c),[]⟩ S:=zM1 rfl fa
   by_cases c2:∀c∈figL w,48<=c/\c<=57
   ·obtain⟨o',e⟩:=i1 c2
    refine zA6 (e:=[some (.str w),some (.int (sg w)),some (.str (st (figL w))),some (.int ((digitsVal (figL w):Nat):Int)),o']) (S1:=S) (by rw[sFor,iv,Rs.then_ok];exact e) ?_
    rw[xc ⟨c1,c2,c3⟩]
    have bd:∀(l:List Nat) (a k:Nat),(∀c∈l,48<=c/\c<=57)->a<10 ^ k->l.foldl stp a<10 ^ (k+l.length):=fun l=>by
     induction l with
     | nil=>intro a k _ h;exact h
     | cons c l ih=>
      intro a k hl h
      have hc:=hl c (.head _)
      have:=ih (stp a c) (k+1) (fun c hc=>hl c (.tail _ hc)) (by show a*10+(c-48)<_;rw[Nat.pow_succ];lia)
      rw[uR,xA]
      rw[show k+(l.length+1)=k+1+l.length by nofun]
      exact this
    have b1:digitsVal (figL w)<10 ^ 19:=xv (bd (figL w) 0 0 c2 (by decide)) (Nat.pow_le_pow_right (by decide) (by nofun))
    have b2:((digitsVal (figL w):Nat):Int)<10 ^ 19:=by exact_mod_cast b1
    have b3:sg w=1\/sg w=-1:=by unfold sg;split <;> simp
    have mu:mulD S (.int ((digitsVal (figL w):Nat):Int)) (.int (sg w))=some (.int (val w)):=zBv ⟨zCx (by have:=b2;lia) (by have:=b2;lia),zCx (by rcases b3 with e|e <;> rw[e] <;> decide) (by rcases b3 with e|e <;> rw[e] <;> decide)⟩
    simp_arith [mu]
   ·rw[xf fun z=>c2 z.2.1]
    exact zAt (by rw[sFor,iv,Rs.then_ok];exact i2 c2)
  ·rw[xo c3]at t2
   rw[xf fun z=>c3 z.2.2]
   exact zAt (zAk (by rw[tOr,tNot,t1,Rs.bind_ok,Rs.bind_ok];exact t2) rfl)
 ·rw[xl c1]at t1
  rw[xf fun z=>c1 z.1]
  exact zAt (zAk (by rw[tOr,tNot,t1,Rs.bind_ok,Rs.bind_ok];rfl) rfl)
end
end DP
namespace DP
open DS RW TX
open PySem (Str)
noncomputable section
open Classical
theorem yAv {c:Nat}{l:List (List Nat)}{p:List Nat}(h:p∈l):p.length<=(l.flatMap fun p=>c::p).length/\∀x∈p,x∈l.flatMap fun p=>c::p:=by
 induction l with
 | nil=>cases h
 | cons a l ih=>
  rw[List.flatMap_cons,xE,xA]
  rcases xk.mp h with e|h
  ·rw[e];exact⟨by nofun,fun x hx=>vQ _ (.tail _ hx)⟩
  ·have:=ih h;exact⟨by nofun,fun x hx=>xT _ (this.2 x hx)⟩
theorem zYb {c:Nat}(l:List (List Nat)):l.length<=(l.flatMap fun p=>c::p).length:=by
 induction l with
 | nil=>simp
 | cons a l ih=>rw[List.flatMap_cons,xE,xA,xA];lia
theorem yAp {c:Nat}{l:List (List Nat)}{p:List Nat}(h:p∈l):p.length<=(jn c l).length/\∀x∈p,x∈jn c l:=by
 cases l with
 | nil=>cases h
 | cons a l=>
  unfold jn
  rw[xE]
  rcases xk.mp h with e|h
  ·rw[e];exact⟨by nofun,fun x hx=>vQ _ hx⟩
  ·have:=yAv (c:=c) h;exact⟨by nofun,fun x hx=>xT _ (this.2 x hx)⟩
theorem zXx {c:Nat}(l:List (List Nat)):l.length<=(jn c l).length+1:=by
 cases l with
 | nil=>simp
 | cons a l=>unfold jn;have:=zYb (c:=c) l;rw[xE,xA];lia
theorem zBp {n c:Nat}{t:Str}(h:Tx n t):(PySem.Txt.split t (sgn c)).length<=n+1/\∀p∈PySem.Txt.split t (sgn c),Tx n p:=by
 have e:ls t=jn c ((PySem.Txt.split t (sgn c)).map ls):=by rw[<- zC7,join_split]
 have k:=zXx (c:=c) ((PySem.Txt.split t (sgn c)).map ls)
 rw[<- e,xq]at k
 have:=h.len
 refine⟨by nofun,fun p hp=>?_⟩
 have q:=yAp (c:=c) (l:=(PySem.Txt.split t (sgn c)).map ls) (xB.mpr ⟨p,hp,rfl⟩)
 rw[<- e]at q
 exact⟨by nofun,fun x hx=>h.asc x (q.2 x hx)⟩
theorem zK9 {S:Store}{c n:Nat}{t:Str}(h:Tx n t) (hn:n<=90000):splitM S (.str t) [.str (sgn c)]=some (.lst ((PySem.Txt.split t (sgn c)).map D.str),S):=by
 have k:=zBp (c:=c) h
 show(if 0<(sgn c).length/\t.length<=100000/\(PySem.Txt.split t (sgn c)).length<=most then some (D.lst ((PySem.Txt.split t (sgn c)).map D.str),S)else none)=_
 rw[xc ⟨by show 0<1;decide,xp h.z (by nofun),xp k.1 (xp (show n+1<=100000 by nofun) (by decide))⟩]
theorem zCw {S:Store}{c n i:Nat}{t:Str}{env:Env}{y:Str}(h:Tx n t) (hn:n<=90000) (hi:env[i]?=some (some (.str t))) (hy:y=sgn c):eMt "str" splitM (eVar i) (zA0 (eC (.str y)) aNil) env S=.ok (.lst ((PySem.Txt.split t (sgn c)).map D.str)) S:=by
 subst hy
 exact zLi (z:=t) (by unfold eVar;rw[hi]) (zDd rfl) (zK9 h hn)
noncomputable def rdW (w:Str):Option Pt:=match PySem.Txt.split w (sgn 44)with
 | [a,b]=>if isN a/\isN b then some (val a,val b)else none
 | _=>none
noncomputable def pD:Option Pt->D
 | some p=>cel p
 | none=>.non
theorem two_of {α:Type}{l:List α}(h:l.length=2):∃a b,l=[a,b]:=by
 match l,h with
 | [a,b],_=>exact⟨a,b,rfl⟩
theorem zKo {w:Str}(h:(PySem.Txt.split w (sgn 44)).length≠2):rdW w=none:=by
 unfold rdW
 split
 ·rename_i a b e;rw[e]at h;exact absurd rfl h
 ·rfl
theorem zGq {S:Store}{l:List D}:lenB S [.lst l]=some (.int (l.length:Nat)):=rfl
theorem zVz {S:Store}{w:Str}{n:Nat}(h:Tx n w) (hn:n<=90000):zAl [.str w,.int 2,.int 19] S=.ok (pD (rdW w)) S:=by
 refine zBe rfl ?_ (by cases rdW w <;> rfl)
 obtain⟨k1,k2⟩:=zBp (c:=44) h
 obtain⟨ys,ey⟩:∃ys,PySem.Txt.split w (sgn 44)=ys:=⟨_,rfl⟩
 have sp:=zCw (S:=S) (c:=44) (i:=0) (env:=[some (.str w),some (.int 2),some (.int 19),none]) (y:=Str.ofString ",") h hn rfl rfl
 rw[ey]at k1 k2 sp
 refine zA6 (e:=[some (.str w),some (.int 2),some (.int 19),some (.lst (ys.map D.str))]) (S1:=S) (show sSet 3 _ [some (.str w),some (.int 2),some (.int 19),none] S=_ by rw[sSet,sp];rfl) ?_
 have tx:∀y∈ys,Tx 100000 y:=fun y hy=>(k2 y hy).le (by nofun)
 have c1:(zAf 1 [2] (iVal (eVar 3)) (gName 0) tYes (zA8 zB4 (zA0 (eVar 0) (zA0 (eVar 1) aNil)))) [some (.str w),some (.int 2),some (.int 19),some (.lst (ys.map D.str))] S=.ok (.lst (ys.map fun n=>.bl (decide (isN n)))) S:=by
  refine zC1 (xs:=ys) (h:=D.str) (gd:=[]) (fun env=>∃o,env=[o,some (.int 19)]) (zDu rfl) zAh ⟨none,rfl⟩ (xp (show ys.length<=100000 by nofun) (by decide)) ?_
  rintro x hx env ⟨o,rfl⟩
  exact⟨[some (.str x),some (.int 19)],rfl,⟨_,rfl⟩,by simp_arith [zXg (tx x hx)]⟩
 have al:=zNa (S:=S) (p:=fun n:Str=>isN n) ys
 have ln:=zGq (S:=S) (l:=ys.map D.str)
 rw[xq]at ln
 have n2:neK S (.int (ys.length:Nat)) (.int 2)=some (.bl (!decide ((ys.length:Int)=2))):=rfl
 have t1:tB (eOp neK (eCB lenB (zA0 (eVar 3) aNil)) (eVar 1)) [some (.str w),some (.int 2),some (.int 19),some (.lst (ys.map D.str))] S=.ok (!decide ((ys.length:Int)=2)) S:=by simp_arith [ln,n2]
 have t2:tTru (eCB allB (zA0 (zAf 1 [2] (iVal (eVar 3)) (gName 0) tYes (zA8 zB4 (zA0 (eVar 0) (zA0 (eVar 1) aNil)))) aNil)) [some (.str w),some (.int 2),some (.int 19),some (.lst (ys.map D.str))] S=.ok (decide (∀x∈ys,isN x)) S:=by
  rw[tTru,eCB,zDd c1,Rs.bind_ok,al]
  rfl
 by_cases l2:ys.length=2
 ·obtain⟨a,b,eab⟩:=two_of l2
  rw[xo (show(ys.length:Int)=2 by nofun)]at t1
  by_cases ok:∀x∈ys,isN x
  ·rw[xo ok]at t2
   have ha:isN a:=ok a (by rw[eab];simp)
   have hb:isN b:=ok b (by rw[eab];simp)
   have er:rdW w=some (val a,val b):=by unfold rdW;rw[ey,eab];exact xc ⟨ha,hb⟩
   rw[er]
   refine zA6 (e:=[some (.str w),some (.int 2),some (.int 19),some (.lst (ys.map D.str))]) (S1:=S) (zBu (by rw[tOr,t1,Rs.bind_ok,xf (by decide),tNot,t2];rfl) rfl) ?_
   have c2:(zAf 1 [] (iVal (eVar 3)) (gName 0) tYes (eCB intS (zA0 (eVar 0) aNil))) [some (.str w),some (.int 2),some (.int 19),some (.lst (ys.map D.str))] S=.ok (.lst (ys.map fun y=>.int (val y))) S:=by
    refine zC1 (xs:=ys) (h:=D.str) (gd:=[]) (fun env=>∃o,env=[o]) (zDu rfl) zAh ⟨none,rfl⟩ (xp (show ys.length<=100000 by nofun) (by decide)) ?_
    rintro x hx env ⟨o,rfl⟩
    exact⟨[some (.str x)],rfl,⟨_,rfl⟩,by simp_arith [int_is (ok x hx)]⟩
   rw[sRet,eCB,zDd c2,Rs.bind_ok,eab]
   rfl
  ·rw[xl ok]at t2
   have er:rdW w=none:=by
    unfold rdW
    rw[ey,eab]
    exact xf fun z=>ok fun x hx=>by
     rw[eab]at hx
     rcases xk.mp hx with e|hx
     ·rw[e];exact z.1
     ·rw[xV.mp hx];exact z.2
   rw[er]
   exact zAt (zAk (by rw[tOr,t1,Rs.bind_ok,xf (by decide),tNot,t2];rfl) rfl)
 ·rw[zKo (by rw[ey];exact l2)]
  rw[xl (show ¬ (ys.length:Int)=2 by nofun)]at t1
  exact zAt (zAk (by rw[tOr,t1,Rs.bind_ok];rfl) rfl)
noncomputable def adj:List Pt->Prop
 | []=>True
 | [_]=>True
 | x::y::l=>plt x y/\adj (y::l)
theorem zNc:∀{I:List Pt},(∀a∈I.zip (I.drop 1),plt a.1 a.2) <-> adj I
 | []=>⟨fun _=>trivial,fun _ a ha=>by cases ha⟩
 | [x]=>⟨fun _=>trivial,fun _ a ha=>by cases ha⟩
 | x::y::l=>by
  have ih:=zNc (I:=y::l)
  have e:(x::y::l).zip ((x::y::l).drop 1)=(x,y)::(y::l).zip ((y::l).drop 1):=rfl
  rw[e]
  constructor
  ·exact fun h=>⟨h (x,y) (.head _),ih.mp fun a ha=>h a (.tail _ ha)⟩
  ·intro h a ha
   rcases xk.mp ha with e|ha
   ·rw[e];exact h.1
   ·exact ih.mpr h.2 a ha
theorem adj_app:∀{I:List Pt}{p:Pt},adj (I++[p]) <-> adj I/\∀q,I.getLast?=some q->plt q p
 | [],p=>⟨fun _=>⟨trivial,fun q e=>by cases e⟩,fun _=>trivial⟩
 | [x],p=>⟨fun h=>⟨trivial,fun q e=>by rw[<- xD e];exact h.1⟩,fun h=>⟨h.2 x rfl,trivial⟩⟩
 | x::y::l,p=>by
  have ih:=adj_app (I:=y::l) (p:=p)
  have e:adj (x::y::l++[p]) <-> plt x y/\adj (y::l++[p]):=Iff.rfl
  rw[e,ih,List.getLast?_cons_cons]
  exact⟨fun hz7=>by obtain⟨a,b,c⟩:=hz7;exact ⟨⟨a,b⟩,c⟩,fun hz8=>by obtain⟨⟨a,b⟩,c⟩:=hz8;exact ⟨a,b,c⟩⟩
theorem zIu:∀{I J:List Pt},adj (I++J)->adj I
 | [],_,_=>trivial
 | [x],_,_=>trivial
 | x::y::l,J,h=>⟨h.1,zIu (I:=y::l) (J:=J) h.2⟩
theorem zKk {S:Store}{I:List Pt}(ln:I.length<=100000):zAq [rowD I] S=.ok (.bl (decide (adj I))) S:=by
 refine zBe rfl ?_ rfl
 have sl:slD S (rowD I) (some 1) none=some (rowD (I.drop 1)):=by
  show some (D.tup (cutL (I.map cel) (some 1) none))=_
  rw[zR9 _ (by decide),<- List.map_drop]
  rfl
 have zp:zipW true true S [rowD I,rowD (I.drop 1)]=some ⟨(I.zip (I.drop 1)).map fun a=>.tup [cel a.1,cel a.2],[]⟩:=by
  show(if true=true/\true=true then some (Walk.mk (((I.map cel).zip ((I.drop 1).map cel)).map fun p=>D.tup [p.1,p.2]) ([]++[]))else none)=_
  rw[xc ⟨rfl,rfl⟩,List.zip_map,vd]
  rfl
 have c:(zAf 2 [] (iZp true true (zA0 (eVar 0) (zA0 (eSl slD (eVar 0) (pYes (eC (.int 1))) pNo) aNil))) (gTup [(gName 0),(gName 1)]) tYes (eOp ltN (eVar 0) (eVar 1))) [some (rowD I)] S=.ok (.lst ((I.zip (I.drop 1)).map fun a=>.bl (decide (plt a.1 a.2)))) S:=by
  refine zC1 (xs:=I.zip (I.drop 1)) (h:=fun a=>.tup [cel a.1,cel a.2]) (gd:=[]) (fun env=>∃o p,env=[o,p]) ?_ zAh ⟨none,none,rfl⟩ (xp (show(I.zip (I.drop 1)).length<=100000 by rw[List.length_zip];lia) (by decide)) ?_
  ·simp_arith [iZp,sl,zp]
  ·rintro a ha env ⟨o,p,rfl⟩
   have lt:ltN S (cel a.1) (cel a.2)=some (.bl (decide (plt a.1 a.2))):=by
    show(if ∃n,n+1<=6/\lv (n+1) (cel a.1)/\lv (n+1) (cel a.2)then some (D.bl (blt (cel a.1) (cel a.2)))else none)=_
    rw[xc ⟨0,by decide,zFi _,zFi _⟩,zN7]
   exact⟨[some (cel a.1),some (cel a.2)],by simp_arith [xn],⟨_,_,rfl⟩,by simp_arith [lt]⟩
 have al:=zNa (S:=S) (p:=fun a:Pt × Pt=>plt a.1 a.2) (I.zip (I.drop 1))
 rw[show decide (∀a∈I.zip (I.drop 1),plt a.1 a.2)=decide (adj I)from xS.mpr zNc]at al
 show(sRet (eCB allB (zA0 _ aNil))) [some (rowD I)] S=_
 rw[sRet,eCB,zDd c,Rs.bind_ok,al]
 rfl
end
end DP
namespace DP
open DS RW TX
open PySem (Str)
noncomputable section
open Classical
noncomputable def rdL:List (Option Pt)->Option (List Pt)
 | []=>some []
 | none::_=>none
 | some p::r=>(rdL r).map (p::·)
theorem zHs:∀{l:List (Option Pt)}{I:List Pt},rdL l=some I->l=I.map some
 | [],I,h=>by cases h;rfl
 | none::r,I,h=>by cases h
 | some p::r,I,h=>by
  unfold rdL at h
  cases e:rdL r with
  | none=>rw[e]at h;cases h
  | some J=>rw[e]at h;cases h;rw[zHs e];rfl
theorem zHt:∀{l:List (Option Pt)},rdL l=none->none∈l
 | [],h=>by cases h
 | none::r,h=>.head _
 | some p::r,h=>by
  unfold rdL at h
  cases e:rdL r with
  | none=>exact .tail _ (zHt e)
  | some J=>rw[e]at h;cases h
noncomputable def wdsR (t:Str):List (Option Pt):=(PySem.Txt.split t (sgn 32)).map rdW
noncomputable def rdT (t:Str):Option (List Pt):=if t=Str.ofString "." then some []else match rdL (wdsR t)with
 | some I=>if adj I then some I else none
 | none=>none
noncomputable abbrev xNo:D:=.st [.int (63:Nat),.str (PySem.Str.ofString "row"),.int 0]
noncomputable def zGt (t:Str) (S:Store):Rs D:=match rdT t with
 | some I=>.ok (rowD I) S
 | none=>.ex (exOf xNo) S
theorem zTb (l:List (Option Pt)):(l.map pD).all nOk=true:=by
 rw[xO]
 intro d hd
 obtain⟨o,_,rfl⟩:=xB.mp hd
 cases o <;> rfl
theorem any_none {l:List (Option Pt)}(h:none∈l):(l.map pD).any DS.isN=true:=uW.mpr ⟨.non,xB.mpr ⟨none,h,rfl⟩,rfl⟩
theorem zQ3 (I:List Pt):(I.map cel).any DS.isN=false:=by
 rw[List.any_eq_false]
 intro d hd
 obtain⟨o,_,rfl⟩:=xB.mp hd
 exact fun z=>nomatch z
theorem zY6 {S:Store}{l:List D}(h:l.all nOk=true):inNN S .non (.tup l)=some (.bl (l.any DS.isN)):=xc h
theorem zY7 {S:Store}{l:List D}(h:l.all nOk=true):inNN S .non (.lst l)=some (.bl (l.any DS.isN)):=xc h
theorem zKb (I:List Pt):(I.map some).map pD=I.map cel:=by rw[vd];rfl
theorem ne_nx {m:SM}{env e:Env}{S S1:Store}(h:m env S=.nx e S1):neS m env S=.nx e S1:=by unfold neS;rw[h];rfl
theorem ne_rt {m:SM}{env:Env}{S S1:Store}{d:D}(h:m env S=.rt d S1):neS m env S=.rt d S1:=by unfold neS;rw[h];rfl
theorem zW0 {S:Store}{t:Str}{n:Nat}(h:Tx n t) (hn:n<=90000):zA9 [.str t] S=zGt t S:=by
 obtain⟨k1,k2⟩:=zBp (c:=32) h
 have e0:=zD7 (S:=S) (a:=t) (b:=Str.ofString ".")
 have body:∀r:SR,zAg [some (.str t),none] S=r->zA9 [.str t] S=(match r with
  | .nx _ S'=>fin S .non S'
  | .rt d S'=>fin S d S'
  | .ex x S'=>.ex x S'
  | _=>.bad):=fun r e=>by rw[<- e];rfl
 unfold zGt rdT
 by_cases z:t=Str.ofString "."
 ·rw[xc z]
  rw[xo z]at e0
  have b:zAg [some (.str t),none] S=.rt (.tup []) S:=zAt (ne_rt (zAk (by simp_arith [e0]) rfl))
  rw[body _ b]
  exact zEp rfl
 ·rw[xf z]
  rw[xl z]at e0
  have s1:neS (sIf (tB (eOp eqY (eVar 0) (eC (.str (PySem.Str.ofString "."))))) (sRet (eTup aNil)) zAv) [some (.str t),none] S=.nx [some (.str t),none] S:=ne_nx (zBu (by simp_arith [e0]) rfl)
  have sp:=zCw (S:=S) (c:=32) (i:=0) (env:=[some (.str t),none]) (y:=Str.ofString " ") h hn rfl rfl
  have c:(zAf 1 [] (iVal (eMt "str" splitM (eVar 0) (zA0 (eC (.str (PySem.Str.ofString " "))) aNil))) (gName 0) tYes (zA8 zAl (zA0 (eVar 0) (zA0 (eC (.int 2)) (zA0 (eC (.int 19)) aNil))))) [some (.str t),none] S=.ok (.lst ((PySem.Txt.split t (sgn 32)).map fun w=>pD (rdW w))) S:=by
   refine zC1 (xs:=PySem.Txt.split t (sgn 32)) (h:=D.str) (gd:=[]) (fun env=>∃o,env=[o]) (zDu sp) zAh ⟨none,rfl⟩ (xp (show _<=100000 by nofun) (by decide)) ?_
   rintro x hx env ⟨o,rfl⟩
   exact⟨[some (.str x)],rfl,⟨_,rfl⟩,by simp_arith [zVz (k2 x hx) hn]⟩
  have s2:neS (sSet 1 (eCB zB1 (zA0 (zAf 1 [] (iVal (eMt "str" splitM (eVar 0) (zA0 (eC (.str (PySem.Str.ofString " "))) aNil))) (gName 0) tYes (zA8 zAl (zA0 (eVar 0) (zA0 (eC (.int 2)) (zA0 (eC (.int 19)) aNil))))) aNil))) [some (.str t),none] S=.nx [some (.str t),some (.tup ((wdsR t).map pD))] S:=by
   unfold neS
   rw[sSet,eCB,zDd c,Rs.bind_ok]
   unfold wdsR
   rw[vd]
   rfl
  have i1:=zY6 (S:=S) (zTb (wdsR t))
  cases er:rdL (wdsR t)with
  | none=>
   rw[any_none (zHt er)]at i1
   have b:zAg [some (.str t),none] S=.ex (exOf xNo) S:=by
    refine zA6 s1 (zA6 s2 ?_)
    have q:neR (tOr (tB (eOp inNN (eC .non) (eVar 1))) (tNot (tTru (zA8 zAq (zA0 (eVar 1) aNil))))) [some (.str t),some (.tup ((wdsR t).map pD))] S=.ok true S:=by
     unfold neR
     rw[show tOr (tB (eOp inNN (eC .non) (eVar 1))) (tNot (tTru (zA8 zAq (zA0 (eVar 1) aNil)))) [some (.str t),some (.tup ((wdsR t).map pD))] S=.ok true S by simp_arith [i1]]
     rfl
    rw[sSeq,zAk q (q:=.ex (exOf xNo) S) rfl]
   rw[body _ b]
  | some I=>
   have ei:=zHs er
   rw[ei,zKb,zQ3]at i1
   rw[ei,zKb]at s2
   have li:I.length<=100000:=by
    have:=congrArg List.length ei
    unfold wdsR at this
    rw[xq,xq]at this
    lia
   have ri:=zKk (S:=S) li
   dsimp only
   have q:neR (tOr (tB (eOp inNN (eC .non) (eVar 1))) (tNot (tTru (zA8 zAq (zA0 (eVar 1) aNil))))) [some (.str t),some (rowD I)] S=.ok (!decide (adj I)) S:=by
    unfold neR
    have ca:zA8 zAq (zA0 (eVar 1) aNil) [some (.str t),some (rowD I)] S=.ok (.bl (decide (adj I))) S:=by rw[zA8,zDd (d:=rowD I) (S1:=S) rfl,Rs.bind_ok,ri]
    have t1:tB (eOp inNN (eC .non) (eVar 1)) [some (.str t),some (rowD I)] S=.ok false S:=by simp_arith [i1]
    rw[tOr,t1,Rs.bind_ok,xf (by decide),tNot,tTru,ca]
    rfl
   by_cases a:adj I
   ·rw[xc a]
    rw[xo a]at q
    have b:zAg [some (.str t),none] S=.rt (rowD I) S:=zA6 s1 (zA6 s2 (zA6 (e:=[some (.str t),some (rowD I)]) (S1:=S) (zBu q rfl) rfl))
    rw[body _ b]
    exact zEp (zD1 _)
   ·rw[xf a]
    rw[xl a]at q
    have b:zAg [some (.str t),none] S=.ex (exOf xNo) S:=zA6 s1 (zA6 s2 (by rw[sSeq,zAk q (q:=.ex (exOf xNo) S) rfl]))
    rw[body _ b]
end
end DP
namespace DP
open DS RW TX
open PySem (Str)
noncomputable section
open Classical
noncomputable abbrev noD:D:=.tup [.str (PySem.Str.ofString "none")]
noncomputable abbrev rB:SM:=(sSeq (sSet 3 (zAf 1 [] (iVal (eMt "str" splitM (eVar 2) (zA0 (eC (.str (PySem.Str.ofString ","))) aNil))) (gName 0) tYes (zA8 zAe (zA0 (eVar 0) aNil))))
  (sSeq (sIf (tOr (tB (eOp neE (eCB lenB (zA0 (eVar 3) aNil)) (eC (.int 2)))) (tOr (tB (eOp inNN (eC .non) (eVar 3))) (tAnd (tB (eOp neE (eVar 1) (eLst aNil))) (tB (eOp geT (eOp ixD (eVar 1) (eUn negD (eC (.int 1)))) (eCB zB1 (zA0 (eVar 3) aNil))))))) (sRet (eTup (zA0 (eC (.str (PySem.Str.ofString "none"))) aNil))) zAv)
  (zJ0 (eMt "list" zB8 (eVar 1) (zA0 (eCB zB1 (zA0 (eVar 3) aNil)) aNil)))))
theorem zRc {S:Store}{d:D}:(S++[d])[S.length]?=some d:=by simp
theorem zRy {S:Store}{d e:D}:(S++[d]).set S.length e=S++[e]:=by simp
theorem zV5 {S:Store}{c:Nat}{l:List D}{d:D}(h:S[c]?=some (.lst l)) (hl:l.length<=200000):zB8 S (.ref c) [d]=some (.non,S.set c (.lst (l++[d]))):=by
 unfold zB8
 simp only[h]
 rw[xc (uB hl (by decide))]
theorem zTa {S:Store}{w:Str}{n:Nat}{d0 d1:Option D}{o3:Option D}(h:Tx n w) (hn:n<=90000):
  (zAf 1 [] (iVal (eMt "str" splitM (eVar 2) (zA0 (eC (.str (PySem.Str.ofString ","))) aNil))) (gName 0) tYes (zA8 zAe (zA0 (eVar 0) aNil))) [d0,d1,some (.str w),o3] S=.ok (.lst ((PySem.Txt.split w (sgn 44)).map nmD)) S:=by
 obtain⟨k1,k2⟩:=zBp (c:=44) h
 have sp:=zCw (S:=S) (c:=44) (i:=2) (env:=[d0,d1,some (.str w),o3]) (y:=Str.ofString ",") h hn rfl rfl
 refine zC1 (xs:=PySem.Txt.split w (sgn 44)) (h:=D.str) (gd:=[]) (fun env=>∃o,env=[o]) (zDu sp) zAh ⟨none,rfl⟩ (xp (show _<=100000 by nofun) (by decide)) ?_
 rintro x hx env ⟨o,rfl⟩
 exact⟨[some (.str x)],rfl,⟨_,rfl⟩,by simp_arith [law_num ((k2 x hx).le (by nofun))]⟩
theorem zXh (l:List Str):(l.map nmD).all nOk=true:=by
 rw[xO]
 intro d hd
 obtain⟨o,_,rfl⟩:=xB.mp hd
 unfold nmD
 split <;> rfl
theorem yAm {S:Store}{a b:Int}:neE S (.int a) (.int b)=some (.bl (!decide (a=b))):=rfl
theorem yAl {S:Store}{c:Nat}{l:List D}(h:S[c]?=some (.lst l)):neE S (.ref c) (.lst [])=some (.bl (!decide (l=[]))):=by
 show(match look S (.ref c)with|some (.lst l)=>some (D.bl (!decide (l=[])))|_=>none)=_
 rw[show look S (.ref c)=some (.lst l)from h]
theorem yAt {S:Store}{p q:Pt}:geT S (cel p) (cel q)=some (.bl (!decide (plt p q))):=by
 show(if lv 1 (cel p)/\lv 1 (cel q)then some (D.bl (!blt (cel p) (cel q)))else none)=_
 rw[xc ⟨zFi _,zFi _⟩,zN7]
noncomputable def okP (I:List Pt):Option Pt->Prop
 | some p=>∀q,I.getLast?=some q->plt q p
 | none=>False
noncomputable def addP (I:List Pt):Option Pt->List Pt
 | some p=>I++[p]
 | none=>I
theorem zW1 {S:Store}{t:D}{w:Str}{n:Nat}{I:List Pt}{o3:Option D}(h:Tx n w) (hn:n<=90000) (hI:I.length<=200000):
  (okP I (rdW w)->∃o,rB [some t,some (.ref S.length),some (.str w),o3] (S++[.lst (I.map cel)])=.nx [some t,some (.ref S.length),some (.str w),o] (S++[.lst ((addP I (rdW w)).map cel)])) /\
  (¬ okP I (rdW w)->rB [some t,some (.ref S.length),some (.str w),o3] (S++[.lst (I.map cel)])=.rt noD (S++[.lst (I.map cel)])):=by
 obtain⟨S',eS⟩:∃S',S++[D.lst (I.map cel)]=S':=⟨_,rfl⟩
 have at_:S'[S.length]?=some (.lst (I.map cel)):=by rw[<- eS];exact zRc
 have nu:=zTa (S:=S') (d0:=some t) (d1:=some (.ref S.length)) (o3:=o3) h hn
 obtain⟨ys,ey⟩:∃ys,PySem.Txt.split w (sgn 44)=ys:=⟨_,rfl⟩
 rw[ey]at nu
 have ln:=zGq (S:=S') (l:=ys.map nmD)
 rw[xq]at ln
 have s1:sSet 3 (zAf 1 [] (iVal (eMt "str" splitM (eVar 2) (zA0 (eC (.str (PySem.Str.ofString ","))) aNil))) (gName 0) tYes (zA8 zAe (zA0 (eVar 0) aNil))) [some t,some (.ref S.length),some (.str w),o3] S'=.nx [some t,some (.ref S.length),some (.str w),some (.lst (ys.map nmD))] S':=by rw[sSet,nu];rfl
 have t1:tB (eOp neE (eCB lenB (zA0 (eVar 3) aNil)) (eC (.int 2))) [some t,some (.ref S.length),some (.str w),some (.lst (ys.map nmD))] S'=.ok (!decide ((ys.length:Int)=2)) S':=by simp_arith [ln,yAm]
 have t2:tB (eOp inNN (eC .non) (eVar 3)) [some t,some (.ref S.length),some (.str w),some (.lst (ys.map nmD))] S'=.ok ((ys.map nmD).any DS.isN) S':=by simp_arith [zY7 (S:=S') (zXh ys)]
 have noP:rdW w=none->rB [some t,some (.ref S.length),some (.str w),o3] S'=.rt noD S':=fun er=>by
  refine zA6 s1 (zAt (zAk ?_ rfl))
  by_cases l2:ys.length=2
  ·obtain⟨a,b,eab⟩:=two_of l2
   rw[xo (show(ys.length:Int)=2 by nofun)]at t1
   have an:(ys.map nmD).any DS.isN=true:=by
    rw[uW]
    unfold rdW at er
    rw[ey,eab]at er
    have er:(if isN a/\isN b then some (val a,val b)else none)=none:=er
    by_cases ha:isN a
    ·by_cases hb:isN b
     ·rw[xc ⟨ha,hb⟩]at er;cases er
     ·exact⟨nmD b,by rw[eab];simp,by unfold nmD;rw[xf hb];rfl⟩
    ·exact⟨nmD a,by rw[eab];simp,by unfold nmD;rw[xf ha];rfl⟩
   rw[an]at t2
   rw[tOr,t1,Rs.bind_ok,xf (by decide),tOr,t2]
   rfl
  ·rw[xl (show ¬ (ys.length:Int)=2 by nofun)]at t1
   rw[tOr,t1]
   rfl
 cases er:rdW w with
 | none=>rw[eS];exact⟨fun z=>z.elim,fun _=>noP er⟩
 | some p=>
  have l2:ys.length=2:=u3 fun z=>by rw[zKo (by rw[ey];exact z)]at er;cases er
  obtain⟨a,b,eab⟩:=two_of l2
  have:isN a/\isN b/\p=(val a,val b):=by
   unfold rdW at er
   rw[ey,eab]at er
   have er:(if isN a/\isN b then some (val a,val b)else none)=some p:=er
   by_cases hab:isN a/\isN b
   ·rw[xc hab]at er;exact⟨hab.1,hab.2,(xD er).symm⟩
   ·rw[xf hab]at er;cases er
  obtain⟨ha,hb,rfl⟩:=this
  have en:ys.map nmD=[.int (val a),.int (val b)]:=by
   rw[eab]
   show [nmD a,nmD b]=_
   unfold nmD
   rw[xc ha,xc hb]
  rw[en]at s1 t1 t2
  rw[xo (show(ys.length:Int)=2 by nofun)]at t1
  have t2:tB (eOp inNN (eC .non) (eVar 3)) [some t,some (.ref S.length),some (.str w),some (.lst [.int (val a),.int (val b)])] S'=.ok false S':=t2
  have tp:zB1 S' [.lst [.int (val a),.int (val b)]]=some (cel (val a,val b)):=rfl
  have t3:tAnd (tB (eOp neE (eVar 1) (eLst aNil))) (tB (eOp geT (eOp ixD (eVar 1) (eUn negD (eC (.int 1)))) (eCB zB1 (zA0 (eVar 3) aNil)))) [some t,some (.ref S.length),some (.str w),some (.lst [.int (val a),.int (val b)])] S'=.ok (!decide (okP I (some (val a,val b)))) S':=by
   have ne:=yAl at_
   rcases List.eq_nil_or_concat I with e|⟨J,q,e⟩
   ·subst e
    have ne:neE S' (.ref S.length) (.lst [])=some (.bl false):=ne
    rw[xo (show okP [] (some (val a,val b))from fun q e=>by cases e)]
    simp_arith [ne]
   ·rw[List.concat_eq_append]at e
    subst e
    rw[xl (show ¬ (J++[q]).map cel=[] by simp)]at ne
    have ng:negD S' (.int 1)=some (.int (-1)):=rfl
    have ix:ixD S' (.ref S.length) (.int (-1))=some (cel q):=by
     show(match look S' (.ref S.length),D.int (-1)with|some (.tup l),.int i=>atL l i|some (.lst l),.int i=>atL l i|some (.str z),.int i=>_|some (.dct t ks vs),k=>_|_,_=>none)=_
     rw[show look S' (.ref S.length)=some (.lst ((J++[q]).map cel))from at_]
     show atL ((J++[q]).map cel) (-1)=_
     exact atM (k:=J.length) (by rw[xq,xE];show(-1:Int)=(J.length:Int)-((J.length+1:Nat):Int);lia) (by simp)
    have ge:=yAt (S:=S') (p:=q) (q:=(val a,val b))
    have od:decide (okP (J++[q]) (some (val a,val b)))=decide (plt q (val a,val b)):=xS.mpr ⟨fun z=>z q (by simp),fun z q' e=>by
     have:q=q':=by simpa using e
     rw[<- this];exact z⟩
    rw[od]
    simp_arith [ne,ng,ix,tp,ge]
  have tt:tOr (tB (eOp neE (eCB lenB (zA0 (eVar 3) aNil)) (eC (.int 2)))) (tOr (tB (eOp inNN (eC .non) (eVar 3))) (tAnd (tB (eOp neE (eVar 1) (eLst aNil))) (tB (eOp geT (eOp ixD (eVar 1) (eUn negD (eC (.int 1)))) (eCB zB1 (zA0 (eVar 3) aNil)))))) [some t,some (.ref S.length),some (.str w),some (.lst [.int (val a),.int (val b)])] S'=.ok (!decide (okP I (some (val a,val b)))) S':=by
   rw[tOr,t1,Rs.bind_ok,xf (by decide),tOr,t2,Rs.bind_ok,xf (by decide)]
   exact t3
  rw[eS]
  constructor
  ·intro ok
   rw[xo ok]at tt
   refine⟨some (.lst [.int (val a),.int (val b)]),zA6 s1 (zA6 (e:=[some t,some (.ref S.length),some (.str w),some (.lst [.int (val a),.int (val b)])]) (S1:=S') (zBu tt rfl) ?_)⟩
   have ap:=zV5 (d:=cel (val a,val b)) at_ (by rw[xq];exact hI)
   have es:S'.set S.length (.lst (I.map cel++[cel (val a,val b)]))=S++[.lst ((addP I (some (val a,val b))).map cel)]:=by
    rw[<- eS,zRy]
    show _=S++[D.lst ((I++[(val a,val b)]).map cel)]
    rw[vk]
    rfl
   rw[es]at ap
   simp_arith [eMt,ty_D at_,tp,ap]
  ·intro no
   rw[xl no]at tt
   exact zA6 s1 (zAt (zAk tt rfl))
theorem zQf {S:Store}{t:D}{n:Nat}(hn:n<=90000):∀(ws:List Str) (I:List Pt) (o2 o3:Option D),(∀w∈ws,Tx n w)->adj I->I.length+ws.length<=200000->
  (∀J,rdL (ws.map rdW)=some J->adj (I++J)->∃o2' o3',forL [] (gName 2) rB (ws.map D.str) [some t,some (.ref S.length),o2,o3] (S++[.lst (I.map cel)])=.nx [some t,some (.ref S.length),o2',o3'] (S++[.lst ((I++J).map cel)])) /\
  ((∀J,rdL (ws.map rdW)=some J->¬ adj (I++J))->∃X,forL [] (gName 2) rB (ws.map D.str) [some t,some (.ref S.length),o2,o3] (S++[.lst (I.map cel)])=.rt noD (S++[.lst X]))
 | [],I,o2,o3,_,ha,_=>⟨fun J e _=>by
   cases e
   exact⟨o2,o3,by unfold forL;rw[vB,vh];exact xc zAh⟩,fun h=>absurd (by rw[vh];exact ha) (h [] rfl)⟩
 | w::ws,I,o2,o3,h,ha,hl=>by
  rw[xA]at hl
  obtain⟨s1,s2⟩:=zW1 (S:=S) (t:=t) (o3:=o3) (I:=I) (h w (.head _)) hn (by nofun)
  have un:forL [] (gName 2) rB ((w::ws).map D.str) [some t,some (.ref S.length),o2,o3] (S++[.lst (I.map cel)])=(match rB [some t,some (.ref S.length),some (.str w),o3] (S++[.lst (I.map cel)])with
   | .nx e S1=>forL [] (gName 2) rB (ws.map D.str) e S1
   | .ct e S1=>forL [] (gName 2) rB (ws.map D.str) e S1
   | .bk e S1=>.nx e S1
   | q=>q):=by
   rw[xx]
   conv=>lhs;unfold forL
   rw[xc zAh]
   rfl
  rw[un]
  by_cases ok:okP I (rdW w)
  ·obtain⟨o,e⟩:=s1 ok
   rw[e]
   cases er:rdW w with
   | none=>rw[er]at ok;exact ok.elim
   | some p=>
    rw[er]at ok
    have ha':adj (I++[p]):=adj_app.mpr ⟨ha,ok⟩
    obtain⟨i1,i2⟩:=zQf (S:=S) (t:=t) hn ws (I++[p]) (some (.str w)) o (fun x hx=>h x (.tail _ hx)) ha' (by rw[xE];simp;lia)
    have em:(w::ws).map rdW=some p::ws.map rdW:=by rw[xx,er]
    rw[em]
    constructor
    ·intro J ej aj
     unfold rdL at ej
     cases er2:rdL (ws.map rdW)with
     | none=>rw[er2]at ej;cases ej
     | some K=>
      rw[er2]at ej
      cases ej
      rw[show I++p::K=I++[p]++K by simp]at aj ⊢
      exact i1 K er2 aj
    ·intro hj
     refine i2 fun K ek ak=>hj (p::K) ?_ (by rw[show I++p::K=I++[p]++K by simp];exact ak)
     unfold rdL
     rw[ek]
     rfl
  ·rw[s2 ok]
   refine⟨fun J ej aj=>?_,fun _=>⟨_,rfl⟩⟩
   exfalso
   rw[xx]at ej
   cases er:rdW w with
   | none=>rw[er]at ej;cases ej
   | some p=>
    rw[er]at ej ok
    unfold rdL at ej
    cases er2:rdL (ws.map rdW)with
    | none=>rw[er2]at ej;cases ej
    | some K=>
     rw[er2]at ej
     cases ej
     rw[show I++p::K=I++[p]++K by simp]at aj
     exact ok (adj_app.mp (zIu aj)).2
noncomputable def rsD:Option (List Pt)->D
 | some I=>.tup [.str (PySem.Str.ofString "island"),rowD I]
 | none=>noD
theorem zLm {k:Nat}(o:Option (List Pt)):(rsD o).low k=true:=by
 cases o with
 | none=>rfl
 | some I=>
  show((D.str (PySem.Str.ofString "island")).low k && ((rowD I).low k && true))=true
  rw[show(rowD I).low k=true from zD1 I]
  rfl
theorem zNx {S:Store}{t:Str}{n:Nat}(h:Tx n t) (hn:n<=90000):zB5 [.str t] S=.ok (rsD (rdT t)) S:=by
 obtain⟨k1,k2⟩:=zBp (c:=32) h
 have e0:=zD7 (S:=S) (a:=t) (b:=Str.ofString ".")
 by_cases z:t=Str.ofString "."
 ·rw[xo z]at e0
  refine zBe rfl ?_ (zLm _)
  rw[show rdT t=some []from xc z]
  exact zAt (zAk (by simp_arith [e0]) rfl)
 ·rw[xl z]at e0
  obtain⟨i1,i2⟩:=zQf (S:=S) (t:=.str t) hn (PySem.Txt.split t (sgn 32)) [] none none k2 trivial (by simp;lia)
  have sp:=zCw (S:=S++[.lst []]) (c:=32) (i:=0) (env:=[some (.str t),some (.ref S.length),none,none]) (y:=Str.ofString " ") h hn rfl rfl
  have iv:iVal (eMt "str" splitM (eVar 0) (zA0 (eC (.str (PySem.Str.ofString " "))) aNil)) [some (.str t),some (.ref S.length),none,none] (S++[.lst []])=.ok ⟨(PySem.Txt.split t (sgn 32)).map D.str,[]⟩ (S++[.lst []]):=zDu sp
  have pre:∀r,sSeq (sFor (iVal (eMt "str" splitM (eVar 0) (zA0 (eC (.str (PySem.Str.ofString " "))) aNil))) (gName 2) rB) (sRet (eTup (zA0 (eC (.str (PySem.Str.ofString "island"))) (zA0 (eCB zB1 (zA0 (eVar 1) aNil)) aNil)))) [some (.str t),some (.ref S.length),none,none] (S++[.lst []])=r->zCm ([D.str t].map some++List.replicate (4-1) none) S=r:=fun r e=>by
   refine zA6 (e:=[some (.str t),none,none,none]) (S1:=S) (zBu (by simp_arith [e0]) rfl) (zA6 (e:=[some (.str t),some (.ref S.length),none,none]) (S1:=S++[.lst []]) (by simp_arith [eNew]) e)
  have bad:(∀J,rdL (wdsR t)=some J->¬ adj J)->zB5 [.str t] S=.ok noD S:=fun hb=>by
   obtain⟨X,e⟩:=i2 hb
   exact zDz (T:=[.lst X]) rfl (pre _ (zAt (by rw[sFor,iv,Rs.then_ok];exact e))) rfl
  unfold rdT
  rw[xf z]
  cases er:rdL (wdsR t)with
  | none=>exact bad fun J e=>by rw[er]at e;cases e
  | some I=>
   dsimp only
   by_cases a:adj I
   ·rw[xc a]
    obtain⟨o2,o3,e⟩:=i1 I er a
    rw[vY]at e
    have tp:zB1 (S++[.lst (I.map cel)]) [.ref S.length]=some (rowD I):=by
     show((litems (S++[.lst (I.map cel)]) (.ref S.length)).map D.tup)=_
     rw[show litems (S++[.lst (I.map cel)]) (.ref S.length)=some (I.map cel) by unfold litems;simp only[show look (S++[.lst (I.map cel)]) (.ref S.length)=some (.lst (I.map cel))from zRc]]
     rfl
    exact zDz (T:=[.lst (I.map cel)]) rfl (pre _ (zA6 (e:=[some (.str t),some (.ref S.length),o2,o3]) (S1:=S++[.lst (I.map cel)]) (by rw[sFor,iv,Rs.then_ok];exact e) (by simp_arith [tp];rfl))) (zLm (some I))
   ·rw[xf a]
    exact bad fun J e=>by rw[er]at e;cases e;exact a
end
end DP
namespace DP
open DS RW TX
open PySem (Str)
noncomputable section
open Classical
noncomputable abbrev rfD:D:=.tup [.str (PySem.Str.ofString "refused"),.bl true]
noncomputable def tdD:Option (List Pt)->D
 | some I=>.tup [.str (PySem.Str.ofString "island"),rowD I]
 | none=>rfD
theorem zXm {k:Nat}(o:Option (List Pt)):(tdD o).low k=true:=by
 cases o with
 | none=>rfl
 | some I=>exact zLm (some I)
noncomputable abbrev tS:SM:=neS (sIf (tAnd (tB (eOp eqI (eFld (inC [63]) (PySem.Str.ofString "row") (eVar 2)) (eC (.int 0)))) (tNot (tTru (eIsX (lkC [(63,false)]) (eVar 2))))) (sSet 1 (eTup (zA0 (eC (.str (PySem.Str.ofString "refused"))) (zA0 (eAnd (eIsX (lkC [(63,true)]) (eVar 2)) (eIsX (lkC [(63,true)]) (eVar 2))) aNil)))) zAv)
theorem zNl {S:Store}{d0 d1:Option D}:tS [d0,d1,some xNo] S=.nx [d0,some rfD,some xNo] S:=by
 have f:eFld (inC [63]) (PySem.Str.ofString "row") (eVar 2) [d0,d1,some xNo] S=.ok (.int 0) S:=by
  unfold eFld
  show(lift (fldX (inC [63]) (PySem.Str.ofString "row") xNo) S)=_
  have:fldX (inC [63]) (PySem.Str.ofString "row") xNo=some (.int 0):=by
   show(if inC [63] ((63:Nat):Int)then(if(PySem.Str.ofString "row" == PySem.Str.ofString "row")=true then some (D.int 0)else none)else none)=_
   rw[xc (by decide),xc (by simp)]
  rw[this];rfl
 have i1:eIsX (lkC [(63,false)]) (eVar 2) [d0,d1,some xNo] S=.ok (.bl false) S:=by
  unfold eIsX
  show(lift ((lkC [(63,false)] ((63:Nat):Int)).map D.bl) S)=_
  rw[show lkC [(63,false)] ((63:Nat):Int)=some false by decide];rfl
 have i2:eIsX (lkC [(63,true)]) (eVar 2) [d0,d1,some xNo] S=.ok (.bl true) S:=by
  unfold eIsX
  show(lift ((lkC [(63,true)] ((63:Nat):Int)).map D.bl) S)=_
  rw[show lkC [(63,true)] ((63:Nat):Int)=some true by decide];rfl
 have e0:=zMe (S:=S) (a:=0) (b:=0)
 rw[xo rfl]at e0
 refine ne_nx (zAk ?_ ?_)
 ·rw[tAnd,tB,eOp,f]
  simp_arith [e0,i1,tTru,tru]
 ·simp_arith [i2]
theorem zRl {S:Store}{t:Str}{n:Nat}(h:Tx n t) (hn:n<=90000):zBz [.str t] S=.ok (tdD (rdT t)) S:=by
 refine zBe rfl ?_ (zXm _)
 refine zA6 (e:=[some (.str t),some noD,none]) (S1:=S) (by simp_arith [xn]) ?_
 have ri:=zW0 (S:=S) h hn
 have m:zMg (neR (eC (.str (PySem.Str.ofString "island")))) (zA8 zA9 (neR (zA0 (eVar 0) aNil))) [some (.str t),some noD,none] S=(zGt t S).bind fun y S2=>.ok (.tup [.str (PySem.Str.ofString "island"),y]) S2:=by
  unfold zMg
  show(Rs.bind (zA8 zA9 (neR (zA0 (eVar 0) aNil)) [some (.str t),some noD,none] S) fun y S2=>.ok (D.tup [.str (PySem.Str.ofString "island"),y]) S2)=_
  rw[show zA8 zA9 (neR (zA0 (eVar 0) aNil)) [some (.str t),some noD,none] S=zA9 [.str t] S from rfl,ri]
 cases er:rdT t with
 | some I=>
  have ei:zGt t S=.ok (rowD I) S:=by unfold zGt;rw[er]
  rw[ei,Rs.bind_ok]at m
  refine zA6 (e:=[some (.str t),some (tdD (some I)),none]) (S1:=S) ?_ (by simp_arith [xn])
  unfold sTry
  rw[m]
  rfl
 | none=>
  have ei:zGt t S=.ex (exOf xNo) S:=by unfold zGt;rw[er]
  rw[ei]at m
  have m:zMg (neR (eC (.str (PySem.Str.ofString "island")))) (zA8 zA9 (neR (zA0 (eVar 0) aNil))) [some (.str t),some noD,none] S=.ex (exOf xNo) S:=m
  refine zA6 (e:=[some (.str t),some rfD,none]) (S1:=S) ?_ (by simp_arith [xn];rfl)
  unfold sTry
  rw[m]
  show(if inC [63] ((63:Nat):Int)=true then(match tS [some (.str t),some noD,some xNo] S with
   | .nx e S2=>SR.nx (e.set 2 none) S2
   | _=>.bad)else .bad)=_
  rw[xc (by decide),zNl]
  rfl
theorem zEr {S:Store}{l m:List D}(h:∀p∈l.zip m,zP2 p.1 p.2):eqY S (.tup l) (.tup m)=some (.bl (decide (l=m))):=xc h
theorem zI0 {a b:Str}:zP2 (.str a) (.str b):=.inr (.inl ⟨a,b,rfl,rfl⟩)
theorem zHq {S:Store}{t:Str}{n:Nat}(h:Tx n t) (hn:n<=90000):zAw [.str t] S=.ok (.bl true) S:=by
 refine zBe rfl ?_ rfl
 have rd:=zNx (S:=S) h hn
 have tl:=zRl (S:=S) h hn
 refine zA6 (e:=[some (.str t),some (rsD (rdT t))]) (S1:=S) (by simp_arith [rd]) ?_
 cases er:rdT t with
 | some I=>
  rw[er]at tl
  have e1:eqY S (rsD (some I)) noD=some (.bl false):=by
   unfold rsD
   rw[zEr (fun p hp=>by rw[xV.mp (show p∈[((D.str (PySem.Str.ofString "island")),(D.str (PySem.Str.ofString "none")))]from hp)];exact zI0),xl (fun z=>by have:=congrArg List.length z;simp at this)]
  refine zA6 (e:=[some (.str t),some (rsD (some I))]) (S1:=S) (zBu (by simp_arith [e1]) rfl) ?_
  have e2:eqY S (tdD (some I)) (rsD (some I))=some (.bl true):=by
   unfold rsD tdD
   rw[zEr (fun p hp=>by
    rcases xk.mp (show p∈[((D.str (PySem.Str.ofString "island")),(D.str (PySem.Str.ofString "island"))),(rowD I,rowD I)]from hp)with e|e
    ·rw[e];exact zI0
    ·rw[xV.mp e]
     exact .inr (.inr ⟨2,by decide,⟨_,rfl,zEk I⟩,⟨_,rfl,zEk I⟩⟩)),xo rfl]
  simp_arith [tl,e2]
 | none=>
  rw[er]at tl
  have e1:eqY S (rsD none) noD=some (.bl true):=by
   unfold rsD
   rw[zEr (fun p hp=>by rw[xV.mp (show p∈[((D.str (PySem.Str.ofString "none")),(D.str (PySem.Str.ofString "none")))]from hp)];exact zI0),xo rfl]
  refine zA6 (e:=[some (.str t),some rfD]) (S1:=S) (zAk (by simp_arith [e1]) (by simp_arith [xn])) ?_
  have e2:eqY S (tdD none) rfD=some (.bl true):=by
   unfold tdD
   rw[zEr (fun p hp=>by
    rcases xk.mp (show p∈[((D.str (PySem.Str.ofString "refused")),(D.str (PySem.Str.ofString "refused"))),(.bl true,.bl true)]from hp)with e|e
    ·rw[e];exact zI0
    ·rw[xV.mp e]
     exact .inl ⟨true,true,rfl,rfl⟩),xo rfl]
  simp_arith [tl,e2]
end
end DP
namespace DP
open DS RW TX
open PySem (Str)
noncomputable section
open Classical
theorem zYv {S:Store}{n m:Nat}{many:Int}(hm:0<many) (h9:many<1000000000000000000000) (h:Deal S n m):∃(r:Int) (S':Store),zA3 [.ref n,.int many] S=.ok (.int r) S'/\0<=r/\r<many/\Deal S' n m/\Only n m S S':=zMk hm (zCx (by nofun) (by nofun)) h
theorem zY1 {S:Store}{z:Str}{i:Int}(hz:z.length<=100000) (h0:0<=i) (h9:i<z.length):∃c,c∈ls z/\ixD S (.str z) (.int i)=some (.str (sgn c)):=by
 have hl:i.toNat<(ls z).length:=by rw[<- zBi];lia
 refine⟨(ls z)[i.toNat],List.getElem_mem hl,?_⟩
 show(if z.length<=most then(atL (ls z) i).map fun c=>D.str ⟨#[c]⟩else none)=_
 rw[xc (xp hz (by decide))]
 have:atL (ls z) i=some (ls z)[i.toNat]:=by
  unfold atL ixN
  rw[xc h0,xc (by rw[<- zBi];exact h9)]
  exact xC hl
 rw[this]
 rfl
noncomputable abbrev sAll:Str:=PySem.Str.ofString " !\"#$&'()*+,-./0123456789:;<=>?@ABCDEFGHIJKLMNOPQRSTUVWXYZ[\\]^_`abcdefghijklmnopqrstuvwxyz{|}~\n"
noncomputable abbrev sFew:Str:=PySem.Str.ofString "0123456789,, -."
theorem zV6:∀c∈ls sAll,c<128:=by decide +kernel
theorem zU2:∀c∈ls sFew,c<128:=by decide +kernel
theorem zRs {S:Store}{n m:Nat}(h:Deal S n m):∃(c:Nat) (S':Store),zAr [.ref n] S=.ok (.str (sgn c)) S'/\c<128/\Deal S' n m/\Only n m S S':=by
 have la:sAll.length=95:=by decide +kernel
 have lf:sFew.length=15:=by decide +kernel
 obtain⟨r,S1,e1,r0,r9,d1,o1⟩:=drawn (many:=2) (by decide) (by decide) h
 obtain⟨a,S2,e2,a0,a9,d2,o2⟩:=drawn (many:=95) (by decide) (by decide) d1
 obtain⟨b,S3,e3,b0,b9,d3,o3⟩:=drawn (many:=15) (by decide) (by decide) d2
 obtain⟨c1,m1,i1⟩:=zY1 (S:=S2) (z:=sAll) (i:=a) (by rw[la];decide) a0 (by rw[la];exact a9)
 obtain⟨c2,m2,i2⟩:=zY1 (S:=S3) (z:=sFew) (i:=b) (by rw[lf];decide) b0 (by rw[lf];exact b9)
 have ln:lenB S1 [.str sAll]=some (.int 95):=by
  show(if sAll.length<=most then some (D.int (sAll.length:Nat))else none)=_
  rw[la,xc (by decide)]
  rfl
 have fin:∀c,atL [D.str (sgn c1),D.str (sgn c2)] r=some (.str (sgn c))->zAr [.ref n] S=.ok (.str (sgn c)) S3:=fun c e=>by
  refine zE0 rfl ?_ h d3 ((o1.trans o2).trans o3) rfl
  refine zA6 (e:=[some (.ref n),some (.int r),none]) (S1:=S1) (by simp_arith [e1]) ?_
  refine zA6 (e:=[some (.ref n),some (.int r),some (.str sAll)]) (S1:=S1) (by simp_arith [xn]) ?_
  simp_arith [ln,e2,i1,e3,i2,e]
 rcases(show r=0\/r=1 by nofun)with e|e
 ·exact⟨c1,S3,fin c1 (by rw[e];exact atL0),zV6 c1 m1,d3,(o1.trans o2).trans o3⟩
 ·exact⟨c2,S3,fin c2 (by rw[e];exact atL1),zU2 c2 m2,d3,(o1.trans o2).trans o3⟩
theorem Tx.app {a b:Nat}{x y:Str}(h:Tx a x) (k:Tx b y):Tx (a+b) (x++y):=by
 have:=h.len
 have:=k.len
 exact⟨by rw[zQn,xE];lia,fun c hc=>by
  rw[zQn]at hc
  rcases vn.mp hc with z|z
  ·exact h.asc c z
  ·exact k.asc c z⟩
theorem Tx.take {a k:Nat}{x:Str}(h:Tx a x):Tx a (st ((ls x).take k)):=⟨by rw[zBx];exact xp (List.length_take_le' k (ls x)) h.len,fun c hc=>h.asc c (List.mem_of_mem_take (by rw[zBx]at hc;exact hc))⟩
theorem Tx.drop {a k:Nat}{x:Str}(h:Tx a x):Tx a (st ((ls x).drop k)):=⟨by rw[zBx,vq];have:=h.len;lia,fun c hc=>h.asc c (List.mem_of_mem_drop (by rw[zBx]at hc;exact hc))⟩
theorem Tx.rev {a:Nat}{x:Str}(h:Tx a x):Tx a (st (ls x).reverse):=⟨by rw[zBx,uM];exact h.len,fun c hc=>h.asc c (List.mem_reverse.mp (by rw[zBx]at hc;exact hc))⟩
theorem Tx.sign {c:Nat}(h:c<128):Tx 1 (sgn c):=⟨xh 1,fun d hd=>by rw[xV.mp (show d∈[c]from hd)];exact h⟩
theorem zGb {S:Store}{a b:Nat}{x y:Str}(h:Tx a x) (k:Tx b y) (hz:a+b<=1000000):addD S (.str x) (.str y)=some (.str (x++y)):=add_str (by have:=h.z;have:=k.z;lia)
theorem zZi {α:Type}(l:List α) {a b:Int}(h:0<=a) (h':a<=l.length) (hb:a<=b):cutL l (some a) (some b)=(l.drop a.toNat).take (b.toNat-a.toNat):=by
 unfold cutL sIx
 dsimp only
 rw[xf (by nofun),xf (by nofun),Nat.min_eq_left (show a.toNat<=l.length by nofun)]
 rcases Nat.le_total b.toNat l.length with c|c
 ·rw[Nat.min_eq_left c]
 ·rw[Nat.min_eq_right c,vW (by rw[vq];lia),vW (by rw[vq];lia)]
theorem zZt {S:Store}{w:Str}{a b:Int}(h:Tx 100000 w) (ha:0<=a) (h9:a<=(ls w).length) (hb:a<=b):slS S (.str w) (some a) (some b)=some (.str (st (((ls w).drop a.toNat).take (b.toNat-a.toNat)))):=by
 show(if _ then some (D.str ⟨(cutL (ls w) (some a) (some b)).toArray⟩)else none)=_
 rw[xc ⟨(fun v e=>by cases e;exact ha),(fun v e=>by cases e;lia),h.z⟩,zZi _ ha h9 hb]
theorem zZx {S:Store}{w:Str}(h:Tx 100000 w):revZ S (.str w)=some (.str (st (ls w).reverse)):=xc h.z
noncomputable def SL (l:List Str):Nat:=(l.map fun y:Str=>y.length).sum
theorem zIv (l m:List Str):SL (l++m)=SL l+SL m:=by unfold SL;rw[vk,List.sum_append]
theorem zNe:∀(l:List Str) (k:Nat),SL (l.take k)<=SL l/\SL (l.drop k)<=SL l
 | l,k=>by
  have e:=zIv (l.take k) (l.drop k)
  rw[List.take_append_drop]at e
  lia
theorem zZo (l:List Str):SL l.reverse=SL l:=by unfold SL;rw[List.map_reverse,List.sum_reverse]
theorem yAu (c:Nat) (l:List Str):((l.map ls).flatMap fun p=>c::p).length=SL l+l.length:=by
 induction l with
 | nil=>rfl
 | cons a l ih=>
  rw[xx,List.flatMap_cons,xE,ih,xA,xA,<- zBi]
  show _=(a.length+SL l)+_
  lia
theorem zXv (c:Nat) (l:List Str):(jn c (l.map ls)).length<=SL l+l.length/\(l≠[]->SL l+l.length=(jn c (l.map ls)).length+1):=by
 cases l with
 | nil=>exact⟨xh _,fun h=>absurd rfl h⟩
 | cons a l=>
  have:=yAu c l
  rw[xx]
  unfold jn
  rw[xE,this,xA,<- zBi]
  show a.length+(SL l+l.length)<=(a.length+SL l)+(l.length+1)/\(_->(a.length+SL l)+(l.length+1)=_)
  exact⟨by nofun,fun _=>by nofun⟩
theorem zNn {m:Nat}{t:Str}(h:Tx m t):SL (PySem.Txt.split t (sgn 32))+(PySem.Txt.split t (sgn 32)).length<=m+1/\0<(PySem.Txt.split t (sgn 32)).length:=by
 have e:ls t=jn 32 ((PySem.Txt.split t (sgn 32)).map ls):=by rw[<- zC7,join_split]
 have p:=PyProof.Rows.split_pos t (sgn 32)
 have k:=(zXv 32 (PySem.Txt.split t (sgn 32))).2 (fun z=>by rw[z]at p;simp at p)
 rw[<- e]at k
 have:=h.len
 exact⟨by nofun,p⟩
theorem zXw {c x:Nat}{l:List (List Nat)}(h:x∈jn c l):x=c\/∃p∈l,x∈p:=by
 cases l with
 | nil=>cases h
 | cons a l=>
  unfold jn at h
  rcases vn.mp h with z|z
  ·exact .inr ⟨a,.head _,z⟩
  ·obtain⟨p,hp,hx⟩:=List.mem_flatMap.mp z
   rcases xk.mp hx with e|e
   ·exact .inl e
   ·exact .inr ⟨p,.tail _ hp,e⟩
theorem zLu {zs:List Str}{B:Nat}(ha:∀z∈zs,∀c∈ls z,c<128) (hb:SL zs+zs.length<=B):Tx B (PySem.Txt.join (sgn 32) zs):=by
 have e:ls (PySem.Txt.join (sgn 32) zs)=jn 32 (zs.map ls):=zC7 32 zs
 refine⟨by rw[e];exact xp (zXv 32 zs).1 hb,fun c hc=>?_⟩
 rw[e]at hc
 rcases zXw hc with z|⟨p,hp,hx⟩
 ·rw[z];decide
 ·obtain⟨w,hw,rfl⟩:=xB.mp hp
  exact ha w hw c hx
theorem zQs {S:Store}{zs:List Str}{B:Nat}{e:EM}{env:Env}(he:e env S=.ok (.lst (zs.map D.str)) S) (hb:SL zs+zs.length<=1000000):eMt "str" joinM (eC (.str (PySem.Str.ofString " "))) (zA0 e aNil) env S=.ok (.str (PySem.Txt.join (sgn 32) zs)) S:=
 zLi (z:=PySem.Str.ofString " ") rfl (zDd he) (zTo (S:=S) (sep:=PySem.Str.ofString " ") (ys:=zs) (by decide) (by have:(zs.map fun y:Str=>y.length).sum=SL zs:=rfl;lia))
theorem sl_l {S:Store}{l:List D}{lo hi:Option Int}:slS S (.lst l) lo hi=some (.lst (cutL l lo hi)):=rfl
theorem add_l {S:Store}{l m:List D}(h:l.length+m.length<=1000000):addD S (.lst l) (.lst m)=some (.lst (l++m)):=by
 show(if l.length+m.length<=most then some (D.lst (l++m))else none)=_
 rw[xc (xp h (by decide))]
theorem zZy {S:Store}{l:List D}:revZ S (.lst l)=some (.lst l.reverse):=rfl
end
end DP
namespace DP
open DS RW TX
open PySem (Str)
noncomputable section
open Classical
theorem zC4 {g:Store->D->D->Option D}{a b:EM}{env:Env}{S S1 S2:Store}{x y z:D}(ha:a env S=.ok x S1) (hb:b env S1=.ok y S2) (hg:g S2 x y=some z):eOp g a b env S=.ok z S2:=by
 rw[eOp,ha,Rs.bind_ok,hb,Rs.bind_ok,hg];rfl
theorem zRi {g:Store->D->Option D}{a:EM}{env:Env}{S S1:Store}{x z:D}(ha:a env S=.ok x S1) (hg:g S1 x=some z):eUn g a env S=.ok z S1:=by
 rw[eUn,ha,Rs.bind_ok,hg];rfl
theorem zAj {env:Env}{S:Store}{i:Nat}{d:D}(h:env[i]?=some (some d)):eVar i env S=.ok d S:=by unfold eVar;rw[h]
theorem zKl {e:EM}{env:Env}{S S1:Store}{d:D}(h:e env S=.ok d S1):sRet e env S=.rt d S1:=by rw[sRet,h];rfl
theorem zVw {g:Store->D->Option Int->Option Int->Option D}{a e:EM}{env:Env}{S:Store}{x z:D}{b:Int}(ha:a env S=.ok x S) (he:e env S=.ok (.int b) S) (hg:g S x none (some b)=some z):eSl g a pNo (pYes e) env S=.ok z S:=by
 rw[eSl,ha,Rs.bind_ok,pNo,Rs.bind_ok,pYes,he,Rs.bind_ok]
 show(Rs.bind (.ok (some b) S) fun h S3=>lift (g S3 x none h) S3)=_
 rw[Rs.bind_ok,hg];rfl
theorem zNr {g:Store->D->Option Int->Option Int->Option D}{a e:EM}{env:Env}{S:Store}{x z:D}{b:Int}(ha:a env S=.ok x S) (he:e env S=.ok (.int b) S) (hg:g S x (some b) none=some z):eSl g a (pYes e) pNo env S=.ok z S:=by
 rw[eSl,ha,Rs.bind_ok,pYes,he,Rs.bind_ok]
 show(Rs.bind (.ok (some b) S) fun l S2=>(pNo env S2).bind fun h S3=>lift (g S3 x l h) S3)=_
 rw[Rs.bind_ok,pNo,Rs.bind_ok,hg];rfl
theorem zQc {g:Store->D->Option Int->Option Int->Option D}{a e f:EM}{env:Env}{S:Store}{x z:D}{b c:Int}(ha:a env S=.ok x S) (he:e env S=.ok (.int b) S) (hf:f env S=.ok (.int c) S) (hg:g S x (some b) (some c)=some z):eSl g a (pYes e) (pYes f) env S=.ok z S:=by
 rw[eSl,ha,Rs.bind_ok,pYes,he,Rs.bind_ok]
 show(Rs.bind (.ok (some b) S) fun l S2=>(pYes f env S2).bind fun h S3=>lift (g S3 x l h) S3)=_
 rw[Rs.bind_ok,pYes,hf,Rs.bind_ok]
 show(Rs.bind (.ok (some c) S) fun h S3=>lift (g S3 x (some b) h) S3)=_
 rw[Rs.bind_ok,hg];rfl
noncomputable def Ch (n m z:Nat) (S:Store) (r:SR):Prop:=∃(t':Str) (S':Store),r=.rt (.str t') S'/\Tx (4*z+10) t'/\Deal S' n m/\Only n m S S'
theorem Ch.seq {n m z:Nat}{S0 S S1:Store}{a b:SM}{env e:Env}(h:a env S=.nx e S1) (k:Ch n m z S0 (b e S1)):Ch n m z S0 (sSeq a b env S):=by rw[zA6 h rfl];exact k
theorem zEg {env:Env}{S:Store}{i:Nat}{a b:Int}(h:env[i]?=some (some (.int a))):eOp addD (eVar i) (eC (.int b)) env S=.ok (.int (a+b)) S:=zC4 (zAj h) rfl rfl
theorem zEw {l:List Str}{lo hi:Option Int}:cutL (l.map D.str) lo hi=(cutL l lo hi).map D.str:=by
 unfold cutL
 rw[xq,List.map_take,List.map_drop]
theorem zE1 (l:List Str) (lo hi:Option Int):SL (cutL l lo hi)<=SL l/\(cutL l lo hi).length<=l.length/\∀x∈cutL l lo hi,x∈l:=by
 unfold cutL
 have a:=zNe l (sIx l.length 0 lo)
 have b:=zNe (l.drop (sIx l.length 0 lo)) (sIx l.length l.length hi-sIx l.length 0 lo)
 refine⟨by nofun,?_,fun x hx=>List.mem_of_mem_drop (List.mem_of_mem_take hx)⟩
 rw[vS,vq]
 lia
section
variable {n m z:Nat}{t:Str}{S0 S:Store}
theorem three {a b c:EM}{env:Env}{S S1:Store}{x y w:Str}{p q r:Nat}(ha:a env S=.ok (.str x) S) (hb:b env S=.ok (.str y) S1) (hc:c env S1=.ok (.str w) S1) (tx:Tx p x) (ty:Tx q y) (tw:Tx r w) (hz:p+q+r<=1000000):
  sRet (eOp addD (eOp addD a b) c) env S=.rt (.str (x++y++w)) S1/\Tx (p+q+r) (x++y++w):=
 ⟨zKl (zC4 (zC4 ha hb (zGb tx ty (by nofun))) hc (zGb (tx.app ty) tw hz)),(tx.app ty).app tw⟩
theorem zHi {env:Env}{ys zs:List Str}{a b c:EM}{B:Nat}{ya yb yc:List Str}(hy:SL ys+ys.length<=z+1) (hz:z<=20000) (as:∀w∈ys,∀c∈ls w,c<128)
  (ha:a env S=.ok (.lst (ya.map D.str)) S) (hb:b env S=.ok (.lst (yb.map D.str)) S) (hc:c env S=.ok (.lst (yc.map D.str)) S)
  (ka:SL ya<=SL ys/\ya.length<=ys.length/\∀x∈ya,x∈ys) (kb:SL yb<=SL ys/\yb.length<=ys.length/\∀x∈yb,x∈ys) (kc:SL yc<=SL ys/\yc.length<=ys.length/\∀x∈yc,x∈ys):
  ∃t',sRet (eMt "str" joinM (eC (.str (PySem.Str.ofString " "))) (zA0 (eOp addD (eOp addD a b) c) aNil)) env S=.rt (.str t') S/\Tx (4*z+10) t':=by
 have e1:eOp addD (eOp addD a b) c env S=.ok (.lst ((ya++yb++yc).map D.str)) S:=by
  rw[vk,vk]
  refine zC4 (zC4 ha hb (add_l ?_)) hc (add_l ?_)
  ·rw[xq,xq];lia
  ·rw[xE,xq,xq,xq];lia
 have sb:SL (ya++yb++yc)+(ya++yb++yc).length<=4*z+10:=by rw[zIv,zIv,xE,xE];lia
 refine⟨_,zKl (zQs (B:=0) e1 (by nofun)),zLu (fun w hw=>as w ?_) sb⟩
 rcases vn.mp hw with hw|hw
 ·rcases vn.mp hw with hw|hw
  ·exact ka.2.2 w hw
  ·exact kb.2.2 w hw
 ·exact kc.2.2 w hw
end
theorem body_ok {S:Store}{n m z:Nat}{t:Str}(h:Deal S n m) (tx:Tx z t) (hz:z<=20000):Ch n m z S (zB7 [some (.ref n),some (.str t),none,none,none,none] S):=by
 have zt:Tx 100000 t:=tx.le (by nofun)
 have tl:t.length=(ls t).length:=zBi t
 have tz:=tx.len
 obtain⟨w,S1,e1,w0,w9,d1,o1⟩:=drawn (many:=7) (by decide) (by decide) h
 obtain⟨a,S2,e2,a0,a9,d2,o2⟩:=drawn (many:=((t.length:Nat):Int)+1) (by have:=tz;lia) (by have:=tz;lia) d1
 have ln:lenB S1 [.str t]=some (.int (t.length:Nat)):=by
  show(if t.length<=most then some (D.int (t.length:Nat))else none)=_
  rw[xc (xp zt.z (by decide))]
 have o12:=o1.trans o2
 obtain⟨env,ee⟩:∃env:Env,env=[some (.ref n),some (.str t),some (.int w),some (.int a),none,none]:=⟨_,rfl⟩
 have v0:env[0]?=some (some (.ref n)):=by rw[ee];rfl
 have v1:env[1]?=some (some (.str t)):=by rw[ee];rfl
 have v2:env[2]?=some (some (.int w)):=by rw[ee];rfl
 have v3:env[3]?=some (some (.int a)):=by rw[ee];rfl
 have x0:sPar [2,3] (zA0 (zA8 zA3 (zA0 (eVar 0) (zA0 (eC (.int 7)) aNil))) (zA0 (zA8 zA3 (zA0 (eVar 0) (zA0 (eOp addD (eCB lenB (zA0 (eVar 1) aNil)) (eC (.int 1))) aNil))) aNil)) [some (.ref n),some (.str t),none,none,none,none] S=.nx env S2:=by
  rw[ee]
  simp_arith [e1,ln,e2]
 have hd:∀(S:Store),eSl slS (eVar 1) pNo (pYes (eVar 3)) env S=.ok (.str (st ((ls t).take a.toNat))) S:=fun S=>zVw (zAj v1) (zAj v3) (zVv zt a0)
 have hd0:=hd S2
 have tA:Tx z (st ((ls t).take a.toNat)):=tx.take
 have tl0:∀(S:Store),eSl slS (eVar 1) (pYes (eVar 3)) pNo env S=.ok (.str (st ((ls t).drop a.toNat))) S:=fun S=>zNr (zAj v1) (zAj v3) (zNq zt a0)
 have tlk:∀(S:Store) (k:Int),0<=k->eSl slS (eVar 1) (pYes (eOp addD (eVar 3) (eC (.int k)))) pNo env S=.ok (.str (st ((ls t).drop (a+k).toNat))) S:=fun S k hk=>zNr (zAj v1) (zEg v3) (zNq zt (by nofun))
 unfold zB7
 refine Ch.seq x0 ?_
 have test:∀(S:Store) (k:Int),tB (eOp eqI (eVar 2) (eC (.int k))) env S=.ok (decide (w=k)) S:=fun S k=>by
  rw[tB,zC4 (z:=.bl (decide (w=k))) (zAj v2) rfl rfl];rfl
 have test0:tB (eOp ltN (eVar 2) (eC (.int 2))) env S2=.ok (decide (w<2)) S2:=by
  rw[tB,zC4 (z:=.bl (decide (w<2))) (zAj v2) rfl rfl];rfl
 -- a sign between
 have withSign:∀(q:EM) (y:Str),(∀S,q env S=.ok (.str y) S)->Tx z y->∃(t':Str) (S':Store),sRet (eOp addD (eOp addD (eSl slS (eVar 1) pNo (pYes (eVar 3))) (zA8 zAr (zA0 (eVar 0) aNil))) q) env S2=.rt (.str t') S'/\Tx (4*z+10) t'/\Deal S' n m/\Only n m S S':=fun q y hq ty=>by
  obtain⟨c,S3,e3,hc,d3,o3⟩:=zRs d2
  have es:zA8 zAr (zA0 (eVar 0) aNil) env S2=.ok (.str (sgn c)) S3:=by rw[zA8,zDd (zAj v0),Rs.bind_ok,e3]
  obtain⟨r1,r2⟩:=three (c:=q) hd0 es (hq S3) tA (Tx.sign hc) ty (by nofun)
  exact⟨_,S3,r1,r2.le (by nofun),d3,o12.trans o3⟩
 by_cases c0:w<2
 ·rw[xo c0]at test0
  obtain⟨t',S',r1,r2,r3,r4⟩:=withSign _ _ tl0 tx.drop
  exact⟨t',S',zAt (zAk test0 r1),r2,r3,r4⟩
 rw[xl c0]at test0
 refine Ch.seq (zBu test0 rfl) ?_
 by_cases c2:w=2
 ·have t2:=test S2 2
  rw[xo c2]at t2
  refine⟨_,S2,zAt (zAk t2 (zKl (zC4 hd0 (tlk S2 1 (by decide)) (zGb tA tx.drop (by nofun))))),(tA.app tx.drop).le (by nofun),d2,o12⟩
 have t2:=test S2 2
 rw[xl c2]at t2
 refine Ch.seq (zBu t2 rfl) ?_
 by_cases c3:w=3
 ·have t3:=test S2 3
  rw[xo c3]at t3
  obtain⟨t',S',r1,r2,r3,r4⟩:=withSign _ _ (fun S=>tlk S 1 (by decide)) tx.drop
  exact⟨t',S',zAt (zAk t3 r1),r2,r3,r4⟩
 have t3:=test S2 3
 rw[xl c3]at t3
 refine Ch.seq (zBu t3 rfl) ?_
 by_cases c4:w=4
 ·have t4:=test S2 4
  rw[xo c4]at t4
  have md:eUn revZ (eSl slS (eVar 1) (pYes (eVar 3)) (pYes (eOp addD (eVar 3) (eC (.int 2))))) env S2=.ok (.str (st (ls (st (((ls t).drop a.toNat).take ((a+2).toNat-a.toNat)))).reverse)) S2:=
   zRi (zQc (zAj v1) (zAj v3) (zEg v3) (zZt zt a0 (by nofun) (by nofun))) (zZx (((tx.drop (k:=a.toNat)).take (k:=(a+2).toNat-a.toNat)).le (by nofun) |> fun h=>by rw[zBx]at h;exact h))
  have tm:Tx z (st (ls (st (((ls t).drop a.toNat).take ((a+2).toNat-a.toNat)))).reverse):=by
   have h:=(tx.drop (k:=a.toNat)).take (k:=(a+2).toNat-a.toNat)
   rw[zBx]at h
   exact h.rev
  obtain⟨r1,r2⟩:=three hd0 md (tlk S2 2 (by decide)) tA tm tx.drop (by nofun)
  exact⟨_,S2,zAt (zAk t4 r1),r2.le (by nofun),d2,o12⟩
 have t4:=test S2 4
 rw[xl c4]at t4
 refine Ch.seq (zBu t4 rfl) ?_
 -- words
 obtain⟨ky,kp⟩:=zNn tx
 obtain⟨k1,k2⟩:=zBp (c:=32) tx
 obtain⟨ys,ey⟩:∃ys,PySem.Txt.split t (sgn 32)=ys:=⟨_,rfl⟩
 have sp:=zCw (S:=S2) (c:=32) (i:=1) (env:=env) (y:=Str.ofString " ") tx (by nofun) v1 rfl
 rw[ey]at sp ky kp k1 k2
 obtain⟨q,S3,e3,q0,q9,d3,o3⟩:=drawn (many:=(ys.length:Nat)) (by have:=kp;lia) (by have:=ky;lia) d2
 have o13:=o12.trans o3
 have s4:sSet 4 (eMt "str" splitM (eVar 1) (zA0 (eC (.str (PySem.Str.ofString " "))) aNil)) env S2=.nx [some (.ref n),some (.str t),some (.int w),some (.int a),some (.lst (ys.map D.str)),none] S2:=by
  rw[sSet,sp,ee];rfl
 refine Ch.seq s4 ?_
 have ll:lenB S2 [.lst (ys.map D.str)]=some (.int (ys.length:Nat)):=by rw[zGq,xq]
 have s5:sSet 5 (zA8 zA3 (zA0 (eVar 0) (zA0 (eCB lenB (zA0 (eVar 4) aNil)) aNil))) [some (.ref n),some (.str t),some (.int w),some (.int a),some (.lst (ys.map D.str)),none] S2=.nx [some (.ref n),some (.str t),some (.int w),some (.int a),some (.lst (ys.map D.str)),some (.int q)] S3:=by simp_arith [ll,e3]
 refine Ch.seq s5 ?_
 obtain⟨en2,ee2⟩:∃env:Env,env=[some (.ref n),some (.str t),some (.int w),some (.int a),some (.lst (ys.map D.str)),some (.int q)]:=⟨_,rfl⟩
 rw[<- ee2]
 have u2:en2[2]?=some (some (.int w)):=by rw[ee2];rfl
 have u4:en2[4]?=some (some (.lst (ys.map D.str))):=by rw[ee2];rfl
 have u5:en2[5]?=some (some (.int q)):=by rw[ee2];rfl
 have as:∀w∈ys,∀c∈ls w,c<128:=fun w hw=>(k2 w hw).asc
 have ha:eSl slS (eVar 4) pNo (pYes (eVar 5)) en2 S3=.ok (.lst ((cutL ys none (some q)).map D.str)) S3:=zVw (zAj u4) (zAj u5) (by rw[sl_l,zEw])
 have hc:∀k:Int,eSl slS (eVar 4) (pYes (eOp addD (eVar 5) (eC (.int k)))) pNo en2 S3=.ok (.lst ((cutL ys (some (q+k)) none).map D.str)) S3:=fun k=>zNr (zAj u4) (zEg u5) (by rw[sl_l,zEw])
 have hb:∀k:Int,eSl slS (eVar 4) (pYes (eVar 5)) (pYes (eOp addD (eVar 5) (eC (.int k)))) en2 S3=.ok (.lst ((cutL ys (some q) (some (q+k))).map D.str)) S3:=fun k=>zQc (zAj u4) (zAj u5) (zEg u5) (by rw[sl_l,zEw])
 have hc0:eSl slS (eVar 4) (pYes (eVar 5)) pNo en2 S3=.ok (.lst ((cutL ys (some q) none).map D.str)) S3:=zNr (zAj u4) (zAj u5) (by rw[sl_l,zEw])
 have test5:tB (eOp eqI (eVar 2) (eC (.int 5))) en2 S3=.ok (decide (w=5)) S3:=by
  rw[tB,zC4 (z:=.bl (decide (w=5))) (zAj u2) rfl rfl];rfl
 by_cases c5:w=5
 ·rw[xo c5]at test5
  have hr:eUn revZ (eSl slS (eVar 4) (pYes (eVar 5)) (pYes (eOp addD (eVar 5) (eC (.int 2))))) en2 S3=.ok (.lst ((cutL ys (some q) (some (q+2))).reverse.map D.str)) S3:=zRi (hb 2) (by rw[zZy,List.map_reverse])
  have kr:=zE1 ys (some q) (some (q+2))
  obtain⟨t',r1,r2⟩:=zHi (S:=S3) (env:=en2) (zs:=[]) (B:=0) ky hz as ha hr (hc 2) (zE1 _ _ _) ⟨by rw[zZo];exact kr.1,by rw[uM];exact kr.2.1,fun x hx=>kr.2.2 x (List.mem_reverse.mp hx)⟩ (zE1 _ _ _)
  exact⟨t',S3,zAt (zAk test5 r1),r2,d3,o13⟩
 ·rw[xl c5]at test5
  obtain⟨t',r1,r2⟩:=zHi (S:=S3) (env:=en2) (zs:=[]) (B:=0) ky hz as ha (hb 1) hc0 (zE1 _ _ _) (zE1 _ _ _) (zE1 _ _ _)
  exact⟨t',S3,zA6 (zBu test5 rfl) r1,r2,d3,o13⟩
theorem zJn {S:Store}{n m z:Nat}{t:Str}(h:Deal S n m) (tx:Tx z t) (hz:z<=20000):∃(t':Str) (S':Store),zAm [.ref n,.str t] S=.ok (.str t') S'/\Tx (4*z+10) t'/\Deal S' n m/\Only n m S S':=by
 obtain⟨t',S',e,a,b,c⟩:=body_ok h tx hz
 exact⟨t',S',zE0 rfl e h b c rfl,a,b,c⟩
end
end DP
namespace DP
open DS RW TX
open PySem (Str)
noncomputable section
open Classical
noncomputable abbrev Bn (n:Int):Prop:=n.natAbs<=100000000000000000000
theorem zNi {n:Int}(h:Bn n):Tx 23 (tn n):=by
 have hl:=zR4 22 n.natAbs (by decide) (uB h (by decide))
 refine⟨?_,fun c hc=>?_⟩
 ·rw[zXl]
  unfold nm
  split
  ·rw[xA];lia
  ·lia
 ·rw[zXl]at hc
  rcases zTc hc with e|e <;> lia
theorem zQa {S:Store}{n:Int}(h:Bn n):strI S [.int n]=some (.str (tn n)):=by
 have l:n.natAbs.log2<1920:=by
  have:n.natAbs<2 ^ 100:=uB h (by decide)
  by_cases z:n.natAbs=0
  ·rw[z];decide
  ·exact vF ((Nat.log2_lt z).mpr this) (by decide)
 show(if n.natAbs.log2<1920 then some (D.str (Str.ofString (toString n)))else none)=_
 rw[xc l];rfl
theorem zUz {g:Store->List D->Option D}{e:EM}{env:Env}{S S1:Store}{d z:D}(h:e env S=.ok d S1) (hg:g S1 [d]=some z):eCB g (zA0 e aNil) env S=.ok z S1:=by rw[eCB,zDd h,Rs.bind_ok,hg];rfl
structure Bp (p:Pt):Prop where
 x:Bn p.1
 y:Bn p.2
noncomputable def wq (p:Pt):Str:=tn p.1++Str.ofString ","++tn p.2
theorem zVc {p:Pt}(h:Bp p):Tx 47 (wq p):=((zNi h.x).app (Tx.sign (c:=44) (by decide))).app (zNi h.y)
theorem zYe {S:Store}{r:Int}(h0:0<=r) (h9:r<4):∃f:Int,1<=f/\f<=20000000000000000000/\ixD S (.lst [.int 1,.int 12,.int 10000,.int 20000000000000000000]) (.int r)=some (.int f):=by
 rcases(show r=0\/r=1\/r=2\/r=3 by nofun)with rfl|rfl|rfl|rfl
 ·exact⟨1,by decide,by decide,atL0⟩
 ·exact⟨12,by decide,by decide,atL1⟩
 ·exact⟨10000,by decide,by decide,atL2⟩
 ·exact⟨20000000000000000000,by decide,by decide,atL3⟩
noncomputable abbrev iB:SM:=(sSeq (sSet 5 (eOp ixD (eLst (zA0 (eC (.int 1)) (zA0 (eC (.int 12)) (zA0 (eOp powD (eC (.int 10)) (eC (.int 4))) (zA0 (eOp mulE (eC (.int 2)) (eOp powD (eC (.int 10)) (eC (.int 19)))) aNil))))) (zA8 zA3 (zA0 (eVar 1) (zA0 (eC (.int 4)) aNil)))))
  (zJ0 (eMt "list" zB8 (eVar 3) (zA0 (eTup (zA0 (eOp subD (zA8 zA3 (zA0 (eVar 1) (zA0 (eOp addD (eOp mulE (eC (.int 2)) (eVar 5)) (eC (.int 1))) aNil))) (eVar 5)) (zA0 (eOp subD (zA8 zA3 (zA0 (eVar 1) (zA0 (eOp addD (eOp mulE (eC (.int 2)) (eVar 5)) (eC (.int 1))) aNil))) (eVar 5)) aNil))) aNil))))
theorem yAr {S0 S:Store}{n m c:Nat}{o0 o2 o4 o5:Option D}{l:List Pt}(h0:Deal S0 n m) (h:MkD n m S0 c (l.map cel) S) (hl:l.length<=100):∃(p:Pt) (o:Option D) (S':Store),iB [o0,some (.ref n),o2,some (.ref c),o4,o5,none,none] S=.nx [o0,some (.ref n),o2,some (.ref c),o4,o,none,none] S'/\MkD n m S0 c ((l++[p]).map cel) S'/\Bp p:=by
 obtain⟨r,S1,e1,r0,r9,d1,o1⟩:=drawn (many:=4) (by decide) (by decide) h.deal
 obtain⟨f,g0,g9,ef⟩:=zYe (S:=S1) r0 r9
 obtain⟨x,S2,e2,x0,x9,d2,o2'⟩:=zYv (many:=2*f+1) (by nofun) (by nofun) d1
 obtain⟨y,S3,e3,y0,y9,d3,o3'⟩:=zYv (many:=2*f+1) (by nofun) (by nofun) d2
 have m1:∀S,mulE S (.int 2) (.int f)=some (.int (2*f)):=fun S=>show mulD S (.int 2) (.int f)=_ from zBv ⟨zCx (by decide) (by decide),zCx (by nofun) (by nofun)⟩
 have m0:∀S,mulE S (.int 2) (.int 10000000000000000000)=some (.int 20000000000000000000):=fun S=>show mulD S (.int 2) (.int 10000000000000000000)=_ from zBv ⟨zCx (by decide) (by decide),zCx (by decide) (by decide)⟩
 have p4:∀S,powD S (.int 10) (.int 4)=some (.int 10000):=fun _=>rfl
 have p19:∀S,powD S (.int 10) (.int 19)=some (.int 10000000000000000000):=fun _=>rfl
 have mk1:=h.draw h0 d1 o1
 have mk:=mk1.draw h0 d3 (o2'.trans o3')
 have mk2:=mk.add h0 (cel (x-f,y-f))
 have em:l.map cel++[cel (x-f,y-f)]=(l++[(x-f,y-f)]).map cel:=by rw[vk];rfl
 have ap:=yBf (d:=cel (x-f,y-f)) mk.at_ (by rw[xq];lia)
 rw[em]at ap mk2
 rw[ixL]at ef
 refine⟨(x-f,y-f),some (.int f),_,?_,mk2,⟨by show(x-f).natAbs<=_;lia,by show(y-f).natAbs<=_;lia⟩⟩
 refine zA6 (e:=[o0,some (.ref n),o2,some (.ref c),o4,some (.int f),none,none]) (S1:=S1) (by simp_arith [p4,p19,m0,e1,ef]) ?_
 simp_arith [eMt,ty_D mk1.at_,m1,e2,e3,ap]
theorem zUr:zC0=zDg 2 5 zN9:=rfl
theorem zTv {cs l:List Pt}(hl:cs.length<=9) (hb:∀p∈cs,Bp p):SL (cs.map wq++if l=[]then [sD]else [])+(cs.map wq++if l=[]then [sD]else []).length<=500/\∀z∈(cs.map wq++if l=[]then [sD]else []),∀c∈ls z,c<128:=by
 have s1:∀cs:List Pt,(∀p∈cs,Bp p)->SL (cs.map wq)<=47*cs.length:=fun cs=>by
  induction cs with
  | nil=>intro _;exact xh _
  | cons p cs ih=>
   intro h
   have a:=ih fun q hq=>h q (.tail _ hq)
   have b:=(zVc (h p (.head _))).z
   show(wq p).length+SL (cs.map wq)<=_
   rw[xA]
   lia
 have s2:SL (if l=[]then [sD]else [])+(if l=[]then [sD]else []).length<=2:=by
  split
  ·exact xh _
  ·show 0+0<=2;decide
 have:=s1 cs hb
 refine⟨by rw[zIv,xE,xq];lia,fun z hz=>?_⟩
 rcases vn.mp hz with h|h
 ·obtain⟨p,hp,rfl⟩:=xB.mp h
  exact(zVc (hb p hp)).asc
 ·split at h
  ·rw[xV.mp h];decide +kernel
  ·cases h
noncomputable def bnd:Nat->Nat
 | 0=>500
 | 1=>2010
 | _=>8050
theorem zRb:∀k,bnd k<=8050
 | 0=>by decide
 | 1=>by decide
 | k+2=>xh _
theorem zZk:∀{k},k<=1->4*bnd k+10<=bnd (k+1)
 | 0,_=>by decide
 | 1,_=>by decide
 | k+2,h=>by nofun
theorem law_ok (ns:List Int) (hn:ns.length<=63):∃S,zJg [.klst (ns.map .int)] []=.ok (.bl true) S:=by
 obtain⟨S1,e1,d1,_,_⟩:=zPw (S:=[]) hn
 rw[<- zUr]at e1
 have d1:Deal S1 0 1:=d1
 obtain⟨r,S2,e2,r0,r9,d2,_⟩:=drawn (many:=8) (by decide) (by decide) d1
 obtain⟨mn,em,hm⟩:∃mn:Nat,(r+4).fdiv 5=(mn:Int)/\mn<=2:=by
  rcases(show r=0\/r=1\/r=2\/r=3\/r=4\/r=5\/r=6\/r=7 by nofun)with e|e|e|e|e|e|e|e <;> subst e
  ·exact⟨0,rfl,by decide⟩
  ·exact⟨1,rfl,by decide⟩
  ·exact⟨1,rfl,by decide⟩
  ·exact⟨1,rfl,by decide⟩
  ·exact⟨1,rfl,by decide⟩
  ·exact⟨1,rfl,by decide⟩
  ·exact⟨2,rfl,by decide⟩
  ·exact⟨2,rfl,by decide⟩
 have fd:zGv S2 (.int (r+4)) (.int 5)=some (.int (mn:Nat)):=by
  show(if(5:Int)≠0/\sm 5 then some (D.int ((r+4).fdiv 5))else none)=_
  rw[xc ⟨by decide,zCx (by decide) (by decide)⟩,em]
 have mk0:MkD 0 1 S2 S2.length (([]:List Pt).map cel) (S2++[.lst []]):=MkD.new d2 d2 (Only.refl.grow) []
 obtain⟨a,S4,e4,a0,a9,d4,o4⟩:=drawn (many:=9) (by decide) (by decide) mk0.deal
 obtain⟨k,ek⟩:∃k:Nat,a=(k:Int):=⟨a.toNat,by nofun⟩
 rw[ek]at e4 a9
 have mk4:=mk0.draw d2 d4 o4
 have rg:=zFn (e:=zA8 zA3 (zA0 (eVar 1) (zA0 (eC (.int 9)) aNil))) (env:=[some (.klst (ns.map .int)),some (.ref 0),some (.int (mn:Nat)),some (.ref S2.length),none,none,none,none]) (S:=S2++[.lst []]) (S':=S4) (n:=k) (by simp_arith [e4]) (by nofun)
 obtain⟨env',S5,e5,l,o4',o5',rfl,mk5,ll,lb⟩:=zM8 (h:=fun(i:Nat)=>D.int (i:Int)) (gd:=[]) (g:=gName 4) (b:=iB) (ys:=List.range k) (fun P env S'=>∃(l:List Pt) (o4 o5:Option D),env=[some (.klst (ns.map .int)),some (.ref 0),some (.int (mn:Nat)),some (.ref S2.length),o4,o5,none,none]/\MkD 0 1 S2 S2.length (l.map cel) S'/\l.length=P.length/\∀p∈l,Bp p) (fun _ _ _ _=>zAh) (fun P i R eq env S' hh=>by
  obtain⟨l,o4,o5,rfl,mk,ll,lb⟩:=hh
  have pl:P.length<=40:=by
   have:=congrArg List.length eq
   rw[uh,xE]at this
   lia
  obtain⟨p,o,S2',e,mk2,bp⟩:=yAr (o0:=some (.klst (ns.map .int))) (o2:=some (.int (mn:Nat))) (o4:=some (.int (i:Int))) (o5:=o5) d2 mk (by nofun)
  refine⟨_,_,S2',rfl,e,l++[p],_,_,rfl,mk2,by rw[xE,xE,ll];rfl,fun x hx=>?_⟩
  rcases vn.mp hx with z|z
  ·exact lb x z
  ·rw[xV.mp z];exact bp) (List.range k) [] [some (.klst (ns.map .int)),some (.ref 0),some (.int (mn:Nat)),some (.ref S2.length),none,none,none,none] S4 rfl ⟨[],none,none,rfl,mk4,rfl,fun x hx=>(by cases hx)⟩
 rw[uh]at ll
 obtain⟨cs,ss,up,nd,mem,len⟩:=zVt (l:=l) (by nofun)
 have cb:∀p∈cs,Bp p:=fun p hp=>lb p ((mem p).mp hp)
 obtain⟨env,ee⟩:∃env:Env,env=[some (.klst (ns.map .int)),some (.ref 0),some (.int (mn:Nat)),some (.ref S2.length),o4',o5',none,none]:=⟨_,rfl⟩
 have v3:env[3]?=some (some (.ref S2.length)):=by rw[ee];rfl
 have cp:(zAf 2 [] (iVal (eUn ssK (eVar 3))) (gTup [(gName 0),(gName 1)]) tYes (eOp addD (eOp addD (eCB strI (zA0 (eVar 0) aNil)) (eC (.str (PySem.Str.ofString ",")))) (eCB strI (zA0 (eVar 1) aNil)))) env S5=.ok (.lst (cs.map fun p=>.str (wq p))) S5:=by
  refine zC1 (xs:=cs) (h:=cel) (gd:=[]) (fun env=>∃o p,env=[o,p]) (zDu (zRi (zAj v3) (ss S5 _ mk5.at_))) zAh ⟨none,none,rfl⟩ (xp (show cs.length<=100 by nofun) (by decide)) ?_
  rintro p hp en ⟨o,q,rfl⟩
  refine⟨[some (.int p.1),some (.int p.2)],by simp_arith [xn],⟨_,_,rfl⟩,?_⟩
  have b:=cb p hp
  have t1:=zNi b.x
  exact zC4 (zC4 (zUz rfl (zQa b.x)) rfl (zGb t1 (Tx.sign (c:=44) (by decide)) (by decide))) (zUz rfl (zQa b.y)) (zGb (t1.app (Tx.sign (c:=44) (by decide))) (zNi b.y) (by decide))
 obtain⟨gb,ga⟩:=zTv (l:=l) (show cs.length<=9 by nofun) cb
 obtain⟨zs,ez⟩:∃zs,(cs.map wq++if l=[]then [sD]else [])=zs:=⟨_,rfl⟩
 rw[ez]at gb ga
 have eq:eqE S5 (.ref S2.length) (.lst [])=some (.bl (decide (l=[]))):=by
  show(match look S5 (.ref S2.length),D.lst []with|some (.lst l),.lst []=>some (D.bl (decide (l=[])))|_,_=>none)=_
  rw[show look S5 (.ref S2.length)=some (.lst (l.map cel))from mk5.at_]
  show some (D.bl (decide (l.map cel=[])))=_
  congr 2
  exact xS.mpr (by simp)
 have ib:intB S5 [.bl (decide (l=[]))]=some (.int (if l=[]then 1 else 0)):=by
  show some (D.int (if decide (l=[])=true then 1 else 0))=_
  simp
 have mu:mulE S5 (.lst [.str sD]) (.int (if l=[]then 1 else 0))=some (.lst ((if l=[]then [sD]else []).map D.str)):=by
  show(if _ then some (D.lst (List.replicate (if l=[]then(1:Int)else 0).toNat [D.str sD]).flatten)else none)=_
  by_cases z:l=[]
  ·rw[xc z,xc z,xc ⟨by simp,by decide,by decide,by decide⟩];rfl
  ·rw[xf z,xf z,xc ⟨by simp,by decide,by decide,by decide⟩];rfl
 have lst1:eLst (zA0 (eC (.str (PySem.Str.ofString "."))) aNil) env S5=.ok (.lst [.str sD]) S5:=rfl
 have m2:eOp mulE (eLst (zA0 (eC (.str (PySem.Str.ofString "."))) aNil)) (eCB intB (zA0 (eOp eqE (eVar 3) (eLst aNil)) aNil)) env S5=.ok (.lst ((if l=[]then [sD]else []).map D.str)) S5:=zC4 lst1 (zUz (zC4 (zAj v3) (show eLst aNil env S5=.ok (.lst []) S5 from rfl) eq) ib) mu
 have al:eOp addD (zAf 2 [] (iVal (eUn ssK (eVar 3))) (gTup [(gName 0),(gName 1)]) tYes (eOp addD (eOp addD (eCB strI (zA0 (eVar 0) aNil)) (eC (.str (PySem.Str.ofString ",")))) (eCB strI (zA0 (eVar 1) aNil)))) (eOp mulE (eLst (zA0 (eC (.str (PySem.Str.ofString "."))) aNil)) (eCB intB (zA0 (eOp eqE (eVar 3) (eLst aNil)) aNil))) env S5=.ok (.lst (zs.map D.str)) S5:=by
  rw[<- ez,vk,vd]
  refine zC4 cp m2 (add_l ?_)
  rw[xq,xq]
  have:(if l=[]then [sD]else []).length<=1:=by split <;> simp
  lia
 have jo:=zQs (B:=0) al (by nofun)
 have gt:Tx 500 (PySem.Txt.join (sgn 32) zs):=zLu ga gb
 obtain⟨good,eg⟩:∃good,PySem.Txt.join (sgn 32) zs=good:=⟨_,rfl⟩
 rw[eg]at jo gt
 -- the changes
 have rg2:=zFn (e:=eVar 2) (env:=[some (.klst (ns.map .int)),some (.ref 0),some (.int (mn:Nat)),some (.ref S2.length),o4',o5',some (.str good),some (.str good)]) (S:=S5) (S':=S5) (n:=mn) rfl (by nofun)
 obtain⟨env6,S6,e6,t,o6,rfl,d6,tx6⟩:=zM8 (h:=fun(i:Nat)=>D.int (i:Int)) (gd:=[]) (g:=gName 4) (b:=sSet 6 (zA8 zAm (zA0 (eVar 1) (zA0 (eVar 6) aNil)))) (ys:=List.range mn) (fun P env S'=>∃(t:Str) (o4:Option D),env=[some (.klst (ns.map .int)),some (.ref 0),some (.int (mn:Nat)),some (.ref S2.length),o4,o5',some (.str t),some (.str good)]/\Deal S' 0 1/\Tx (bnd P.length) t) (fun _ _ _ _=>zAh) (fun P i R eq env S' hh=>by
  obtain⟨t,o4,rfl,dd,tx⟩:=hh
  have pl:P.length<=1:=by
   have:=congrArg List.length eq
   rw[uh,xE,xA]at this
   lia
  obtain⟨t',S7,e7,tx7,d7,_⟩:=zJn dd tx (xp (zRb _) (by decide))
  refine⟨_,_,S7,rfl,(show sSet 6 (zA8 zAm (zA0 (eVar 1) (zA0 (eVar 6) aNil))) [some (.klst (ns.map .int)),some (.ref 0),some (.int (mn:Nat)),some (.ref S2.length),some (.int (i:Int)),o5',some (.str t),some (.str good)] S'=_ by simp_arith [e7]),t',some (.int (i:Int)),rfl,d7,tx7.le (by rw[xE,List.length_singleton];exact zZk pl)⟩) (List.range mn) [] [some (.klst (ns.map .int)),some (.ref 0),some (.int (mn:Nat)),some (.ref S2.length),o4',o5',some (.str good),some (.str good)] S5 rfl ⟨good,_,rfl,mk5.deal,gt⟩
 have tx6:Tx 8050 t:=tx6.le (zRb _)
 have ok1:=zHq (S:=S6) gt (by decide)
 have ok2:=zHq (S:=S6) tx6 (by decide)
 refine⟨[],?_⟩
 unfold zJg zAi
 rw[xc (show [D.klst (ns.map .int)].length=1 from rfl)]
 suffices hb':zV2 ([D.klst (ns.map .int)].map some++List.replicate (8-1) none) []=.rt (.bl true) S6 by rw[hb'];exact zU1
 refine zA6 (e:=[some (.klst (ns.map .int)),some (.ref 0),none,none,none,none,none,none]) (S1:=S1) (by simp_arith [e1]) ?_
 refine zA6 (e:=[some (.klst (ns.map .int)),some (.ref 0),some (.int (mn:Nat)),none,none,none,none,none]) (S1:=S2) (by simp_arith [e2,fd]) ?_
 refine zA6 (e:=[some (.klst (ns.map .int)),some (.ref 0),some (.int (mn:Nat)),some (.ref S2.length),none,none,none,none]) (S1:=S2++[.lst []]) (by simp_arith [eNew]) ?_
 refine zA6 (e:=env) (S1:=S5) (by rw[sFor,rg,Rs.then_ok,ee];exact e5) ?_
 refine zA6 (e:=[some (.klst (ns.map .int)),some (.ref 0),some (.int (mn:Nat)),some (.ref S2.length),o4',o5',some (.str good),none]) (S1:=S5) (by rw[sSet,jo,ee];rfl) ?_
 refine zA6 (e:=[some (.klst (ns.map .int)),some (.ref 0),some (.int (mn:Nat)),some (.ref S2.length),o4',o5',some (.str good),some (.str good)]) (S1:=S5) (by simp_arith [xn]) ?_
 refine zA6 (e:=[some (.klst (ns.map .int)),some (.ref 0),some (.int (mn:Nat)),some (.ref S2.length),o6,o5',some (.str t),some (.str good)]) (S1:=S6) (by rw[sFor,rg2,Rs.then_ok];exact e6) ?_
 simp_arith [ok1,ok2]
end
end DP
namespace L2
open PySem PySem.Spec PyProof.Rows
open DS (D Store Exn Rs SR)
noncomputable def gsB (X:Cx) (K:PySem.W.Frag) (x:Str) (d:D):Bool:=glB X x && (!(x == ("__debug__":Str)) && (match PySem.W.nsIn K mainGlobals x,d with
 | some (some (.str y _)),.str z=>y == z
 | some (some (.int i _)),.int j=>i == j
 | _,_=>false))
theorem yAy {X:Cx}{K:PySem.W.Frag}{E:XE}{pos:Pos}{x:Str}{d:D}(G:Gd K X.mg) (h:gsB X K x d=true):DE X K E (.Name x pos) (DS.eC d):=by
 simp only[gsB,xm,vM]at h
 obtain⟨h1,h2,h3⟩:=h
 split at h3
 ·rename_i y t z e
  have:y=z:=by simpa using h3
  subst this
  exact de_c (zCo (v:=.str y) (zBy h1) (G.a _ _ e) ⟨t,rfl⟩ h2) fun _ _=>rfl
 ·rename_i i t j e
  have:i=j:=by simpa using h3
  subst this
  exact de_c (zCo (v:=.int i) (zBy h1) (G.a _ _ e) ⟨t,rfl⟩ h2) fun _ _=>rfl
 ·cases h3
end L2
namespace L2
open PySem PySem.Spec PyProof.Rows
open DS (D Store Exn Rs SR)
noncomputable def xeOf (K:PySem.W.Frag) (EX:XK):XE:=fun x _ J H=>∀d a,x=DS.exOf d->Rep K J H d (.ref a)->EX (.ref a) none H
noncomputable def spX (K:PySem.W.Frag) (F:DS.Fn):Sp:=fun vs H Q EX=>∃J S ds,AbS K J S H/\RepL K J H ds vs/\Post K (xeOf K EX) J H (F ds S) (fun d _ J' H'=>∀v,Rep K J' H' d v->Q v H')
section
variable {α:Type}{X:Cx}{K:PySem.W.Frag}{E:XE}{J:Js}{H:Hp}{e:Expr}{st:Stmt}{sts:List Stmt}{m:DS.EM}{mt:DS.TM}{ms:DS.SM}
theorem Post.ne {r:Rs α}{P:α->Store->Js->Hp->Prop}(h:Post K E J H r.ne P):Post K XE0 J H r P:=by
 cases r with
 | ok a S=>exact h
 | ex x S=>exact False.elim h
 | bad=>exact h
theorem PostS.ne {r:SR}{D:Ends}(h:PostS K E J H r.ne D):PostS K XE0 J H r D:=by
 cases r with
 | ex x S=>exact False.elim h
 | bad=>exact h
 | _=>exact h
theorem PS.nox {t:TS}(h:PS X.nox st t):PS X st t:=fun pins s σ H D I hw=>
 xJ (h pins s σ H D (I.wish _) hw) (fun _ _ q=>q.unwish) fun _ _ z=>False.elim z
theorem PA.nox {es:List Expr}{t:TA}(h:PA X.nox es t):PA X es t:=fun pos pins s σ H Q I hw=>
 xJ (h pos pins s σ H Q (I.wish _) hw) (fun _ _ hz9=>by obtain⟨v,H',I',r,q⟩:=hz9;exact ⟨v,H',I'.unwish,r,q⟩) fun _ _ z=>False.elim z
theorem zYs (h:DT X.nox K XE0 e mt):DT X K E e (DS.neR mt):=⟨(ST.imp ⟨h.h.h.nox⟩) fun σ H Q hz0=>by obtain⟨env,S,J,ha,he,q⟩:=hz0;exact ⟨env,S,J,ha,he,Post.ne q⟩⟩
theorem zUh (h:DS1 X.nox K XE0 st ms):DS1 X K E st (DS.neS ms):=⟨(SS.imp ⟨h.h.h.nox⟩) fun D σ H hz1=>by obtain⟨env,S,J,ha,he,q⟩:=hz1;exact ⟨env,S,J,ha,he,PostS.ne q⟩⟩
end
section
variable {P:Program}{w:World}{K:PySem.W.Frag}{mg:Str->Option Value}{base:Heap}{E:XE}
theorem body_okX {J:Js}{H:Hp}{np:Nat}{N:List Str}{b:DS.SM}{ds:List D}{vs:List V}{S:Store}{Q:VK}(ha:AbS K J S H) (r:RepL K J H ds vs)
  (h:Post K E J H (DS.zAi np N.length b ds S) (fun d _ J' H'=>∀v,Rep K J' H' d v->Q v H')):tsOf K E b { nx:=fun _ H'=>Q .non H',rt:=Q } (start N vs) H:=by
 have hl:ds.length=np:=by
  unfold DS.zAi at h
  by_cases e:ds.length=np
  ·exact e
  ·rw[xf e]at h;exact False.elim h
 unfold DS.zAi at h
 rw[xc hl,<- hl]at h
 refine⟨_,S,J,ha,zE9 r,?_⟩
 have fin:∀d S' J' H' v,AbS K J' S' H'->Grow J H J' H'->Rep K J' H' d v->Post K E J H (DS.fin S d S') (fun d _ J' H'=>∀v,Rep K J' H' d v->Q v H')->Q v H':=fun d S' J' H' v a1 g1 r1 q=>by
  cases e:DS.fin S d S' with
  | ok d2 S2=>
   obtain⟨J2,a2,g2,r2⟩:=zQz ha g1 a1 r1 e
   rw[e]at q
   exact q J2 H' a2 g2 v r2
  | ex x S2=>
   exfalso
   unfold DS.fin at e
   split at e <;> try cases e
   split at e <;> try cases e
   split at e <;> try cases e
   split at e <;> try cases e
   split at e <;> cases e
  | bad=>rw[e]at q;exact False.elim q
 cases e:b (ds.map some++List.replicate (N.length-ds.length) none) S with
 | nx e1 S1=>rw[e]at h;exact fun J' H' σ h1 g1 _=>fin .non S1 J' H' .non h1 g1 rfl h
 | rt d S1=>rw[e]at h;exact fun J' H' v h1 g1 r1=>fin d S1 J' H' v h1 g1 r1 h
 | bk e1 S1=>rw[e]at h;exact False.elim h
 | ct e1 S1=>rw[e]at h;exact False.elim h
 | ex x S1=>rw[e]at h;exact h
 | bad=>rw[e]at h;exact False.elim h
theorem fn_x {k:Nat}{x qual:Str}{st:Stmt}{f:Addr}{fd:FuncData}{N ps:List Str}{np nl:Nat}{b:DS.SM}(F:Fun K x qual st f fd) (Sc:zBl N ps (zA1 st)) (hnp:ps.length=np) (hnl:N.length=nl)
  (hb:∀(cdv:Value) (A:Around) (outer:List PySem.Env) (s:Shared) (H:Hp) (EX:XK),Room k (A.deeper (envOfC qual (zA1 st) s.heap.objs.size f cdv))->DSs (cxOf (CXE P w) P w K mg base N qual (zA1 st) f cdv A outer s H EX) K (xeOf K EX) (zAa st) b):
  FnOk P w K mg base (CXE P w) (k+1) f fd ps (spX K (DS.zAi np nl b)):=by
 subst hnp hnl
 obtain⟨oc,od,kV,doc,pm,an,cdv,ct,osl,rfl,lk,hcd⟩:=F.ex
 refine zYa lk hcd Sc (fun vs H Q E h=>?_) (fun A outer s H vs Q E hr h=>?_)
 ·obtain⟨J,S,ds,ha,r,q⟩:=h
  rw[<- r.length]
  unfold DS.zAi at q
  by_cases e:ds.length=ps.length
  ·exact e
  ·rw[xf e]at q;exact False.elim q
 ·obtain⟨J,S,ds,ha,r,q⟩:=h
  exact⟨_,(hb cdv A outer s H E hr).h.h,body_okX ha r q⟩
end
end L2
namespace L2
open PySem PySem.Spec PyProof.Rows
open DS (D Store Exn Rs SR)
noncomputable def spI (K:PySem.W.Frag) (f:Str):Sp:=fun vs H Q _=>∃a x C,vs=[.ref a,x]/\H a=some (.ext (XO a C none true))/\ClsE K C/\NoAttr K C f/\∀dx,H dx=none->dx≠a->Q .non (upd (upd H a (.ext (XO a C (some dx) true))) dx (.xd [(f,x)]))
theorem zTs {P:Program}{w:World}{K:PySem.W.Frag}{mg:Str->Option Value}{base:Heap}{k:Nat}{x qual s0 x0 f:Str}{st:Stmt}{fI:Addr}{fd:FuncData}{p1 p2 p3 p4:Pos}(F:Fun K x qual st fI fd) (Sc:zBl [s0,x0] [s0,x0] (zA1 st))
  (hb:zAa st=[.Assign [.Attribute (.Name s0 p1) f p2] (.Name x0 p3) p4]) (v0:Vis (zA1 st) s0) (v1:Vis (zA1 st) x0) (d0:(s0 == ("__debug__":Str))=false:=by decide) (d1:(x0 == ("__debug__":Str))=false:=by decide)
  (c0:(s0 == ("__classdict__":Str))=false:=by decide) (c1:(x0 == ("__classdict__":Str))=false:=by decide):FnOk P w K mg base CX0 (k+1) fI fd [s0,x0] (spI K f):=by
 refine F.ok Sc (fun vs H Q E hq38=>by obtain⟨a,y,C,e,_⟩:=hq38;rw[e];rfl) (fun cdv A outer s H vs Q E hr hq1=>?_)
 obtain⟨a,y,C,e,ea,c,n,q⟩:=hq1
 rw[hb]
 subst e
 exact⟨_,(zHu ⟨yA3 (pv 0 rfl v0 d0 c0) (pv 1 rfl v1 d1 c1) rfl⟩).h,y,rfl,.ref a,rfl,a,C,true,rfl,ea,c,n,q⟩
section
variable {X:Cx}{CX:CXT}{k:Nat}{f C:Addr}{fd:FuncData}{ps:List Str}{sp:Sp}{E:XK}{x:Str}{p pos:Pos}{e:Expr}{es:List Expr}{t:TA}{B newId initId:String}{bmB:List Value}
noncomputable def tExc (C:Addr) (sp:Sp) (E:XK) (t:TA):TE:=fun σ H Q=>t σ H fun vs H1=>vs.length<=1000/\∀a,H1 a=none->sp (.ref a::vs) (upd H1 a (.ext (XO a C none true))) (fun v H2=>v=.non/\Q (.ref a) H2) E
theorem zWy (FB:ExcBaseFacts B newId initId bmB) (M:zFp X.K C f bmB newId=true) (F:FnOk X.prog X.w X.K X.mg X.base CX k f fd ps sp) (hr:Room (k+1) X.A) (hb:Binds X.K fd ps []) (hx:Passes CX X E) (hg:Gl X x) (hm:X.mg x=some (.ref C)) (hk:PySem.W.keepIn X.K (.ref C)=true)
  (ha:PA X (e::es) t) (hdb:(x == ("__debug__":Str))=false:=by decide) (he:starEach (e::es) X.env=(false,eval e X.env)::starEach es X.env:=by rfl) (hpl:(backTo pos (starEach es X.env)).any (·.1)=false:=by rfl):
  PE X (.Call (.Name x p) (e::es) [] pos) (tExc C sp E t):=by
 intro pins s σ H Q I h
 refine vE (zD3 I hg hm ?_ hdb)
 refine PySem.W.callWith_K (h₀:=X.base) I.ok.mod.kin hk (thn (ha pos pins s σ H _ I h) fun us s1 hz2=>by obtain⟨vs,H1,I1,r,z,q⟩:=hz2;exact ⟨I1.kIn,zS0 FB M F hr hb hx I1 r (by show us.length<=1000;rw[<- r.length];exact z) q⟩) he hpl
end
section
variable {P:Program}{w:World}{K:PySem.W.Frag}{mg:Str->Option Value}{base:Heap}{N:List Str}{qual:Str}{scope:Scope}{f a:Addr}{cd:Value}{A:Around}{outer:List Env}{s:Shared}{H:Hp}{EX:XK}
noncomputable def ZX (EX:XK) (a:Addr) (H:Hp):Prop:=∃C dx,H a=some (.ext (XO a C dx true))/\EX (.ref a) none (upd H a (.ext (XO a C dx false)))
theorem zZq {pins:List (Addr × Obj)}{σ:St}{H1:Hp}{s1:Shared}(I:Inv (cxOf (CXE P w) P w K mg base N qual scope f cd A outer s H EX) pins σ H1 s1) (z:ZX EX a H1):(cxOf (CXE P w) P w K mg base N qual scope f cd A outer s H EX).xe (.ref a) s1:=by
 obtain⟨C,dx,ea,q⟩:=z
 refine zTz (FlyI.new I ea) fun C' dx' fr ea'=>?_
 obtain⟨⟨vs,sl,he,_⟩,_⟩:=I.hok a _ ea
 obtain⟨⟨vs',sl',he',_⟩,_⟩:=I.hok a _ ea'
 rw[he]at he'
 cases he'
 exact q
theorem zMj {B newId initId:String}{bmB:List Value}{k:Nat}{fI C:Addr}{fd:FuncData}{s0 x0 fl cn:Str}{e:Expr}{am:DS.AM}{p pos pos':Pos}(FB:ExcBaseFacts B newId initId bmB) (M:zFp K C fI bmB newId=true)
  (F:FnOk P w K mg base CX0 k fI fd [s0,x0] (spI K fl)) (hr:Room (k+1) (cxOf (CXE P w) P w K mg base N qual scope f cd A outer s H EX).A) (hb:Binds K fd [s0,x0] []) (hg:Gl (cxOf (CXE P w) P w K mg base N qual scope f cd A outer s H EX) cn) (hm:mg cn=some (.ref C)) (hk:PySem.W.keepIn K (.ref C)=true)
  (hc:ClsE K C) (hn:NoAttr K C fl) (hx:zFq K C=true) (ha:DA (cxOf (CXE P w) P w K mg base N qual scope f cd A outer s H EX) K (xeOf K EX) [e] am) (hdb:(cn == ("__debug__":Str))=false:=by decide)
  (he:starEach [e] (cxOf (CXE P w) P w K mg base N qual scope f cd A outer s H EX).env=[(false,eval e (cxOf (CXE P w) P w K mg base N qual scope f cd A outer s H EX).env)]:=by rfl):
  DS1 (cxOf (CXE P w) P w K mg base N qual scope f cd A outer s H EX) K (xeOf K EX) (.Raise (some (.Call (.Name cn p) [e] [] pos)) none pos') (DS.zKj (DS.mkX C fl) am):=by
 refine⟨SS.imp ⟨yA4 (Z:=ZX EX) (zWy (X:=cxOf (CXE P w) P w K mg base N qual scope f cd A outer s H EX) (E:=E0) FB M F hr hb pass0 hg hm hk ha.h.h hdb he rfl) rfl fun pins σ H s a I z=>zZq I z⟩ ?_⟩
 intro D σ H0 hq39
 obtain⟨env,S,J,hab,hen,q⟩:=hq39
 refine⟨env,S,J,hab,hen,q.then.imp fun ds S1 J1 H1 e1 a1 g1 q1 vs rv=>?_⟩
 unfold DS.mkX at q1
 split at q1
 ·rename_i d0 hmk
  split at hmk
  ·rename_i d
   cases hmk
   obtain⟨y,r,rfl,ry,er⟩:=rv
   obtain rfl:r=[]:=er
   refine⟨by show 1<=1000;decide,fun a na=>⟨a,y,C,rfl,zA5,hc,hn,fun dx ndx hne=>⟨rfl,?_⟩⟩⟩
   have ndx1:H1 dx=none:=by rwa[zA2 hne]at ndx
   have h3:(upd (upd (upd H1 a (.ext (XO a C none true))) a (.ext (XO a C (some dx) true))) dx (.xd [(fl,y)])) a=some (.ext (XO a C (some dx) true)):=by rw[zA2 (xr hne)];exact zA5
   refine⟨a,C,some dx,rfl,h3,hx,C,some dx,h3,?_⟩
   generalize e4:upd (upd (upd (upd H1 a (.ext (XO a C none true))) a (.ext (XO a C (some dx) true))) dx (.xd [(fl,y)])) a (.ext (XO a C (some dx) false))=H4
   have k4:∀b o,H1 b=some o->H4 b=some o:=fun b o eb=>by
    rw[<- e4,zA2 (zA4 eb na),zA2 (zA4 eb ndx1),zA2 (zA4 eb na),zA2 (zA4 eb na)];exact eb
   have ea4:H4 a=some (.ext (XO a C (some dx) false)):=by rw[<- e4];exact zA5
   have ed4:H4 dx=some (.xd [(fl,y)]):=by rw[<- e4,zA2 hne];exact zA5
   exact q1 J1 H4 (a1.more k4) (.of k4) (.st [.int C,.str fl,d]) a rfl ⟨a,C,some dx,false,[(fl,y)],rfl,a1.out na,ea4,.inr ⟨dx,rfl,a1.out ndx1,ed4⟩,rfl,y,[],rfl,Rep.grow (.of k4) d y ry,rfl⟩
  ·cases hmk
 ·exact False.elim q1
end
end L2
namespace L2
open PySem PySem.Spec PyProof.Rows
open DS (D Store Exn Rs SR)
noncomputable def xR (K:PySem.W.Frag) (R:Addr->Hp->Prop):XE:=fun x _ J H=>∀d a,x=DS.exOf d->Rep K J H d (.ref a)->Flown H a->R a H
noncomputable def txOf (K:PySem.W.Frag) (m:DS.EM):TX:=fun σ H Q R=>∃env S J,AbS K J S H/\RepE K J H env σ/\Post K (xR K R) J H (m env S) (fun d _ J' H'=>∀v,Rep K J' H' d v->Q v H')
structure DX (X:Cx) (K:PySem.W.Frag) (e:Expr) (m:DS.EM):Prop where h:PEx X e (txOf K m)
section
variable {α:Type}{K:PySem.W.Frag}{E E':XE}{J:Js}{H:Hp}
theorem PEx.imp {X:Cx}{e:Expr}{t t':TX}(h:PEx X e t) (k:∀σ H Q R,t' σ H Q R->t σ H Q R):PEx X e t':=fun pins s σ H Q R I q=>h pins s σ H Q R I (k σ H Q R q)
theorem Post.impE {r:Rs α}{P:α->Store->Js->Hp->Prop}(k:∀x S J H,E x S J H->E' x S J H) (h:Post K E J H r P):Post K E' J H r P:=by
 cases r with
 | ok a S=>exact h
 | ex x S=>exact fun J' H' h1 h2=>k _ _ _ _ (h J' H' h1 h2)
 | bad=>exact h
theorem RepE.unset {env:DS.Env}{σ:St}{i:Nat}(h:RepE K J H env σ):RepE K J H (env.set i none) (σ.set i none):=by
 refine⟨by simp[h.len],fun j d' e=>?_⟩
 by_cases hj:i=j
 ·subst hj
  have hi:i<env.length:=by
   have:=(xI.mp e).1
   simpa using this
  rw[xY hi]at e
  cases e
 ·rw[xF hj]at e
  obtain⟨v,q,r⟩:=h.get j d' e
  exact⟨v,by rw[xF hj];exact q,r⟩
theorem zVf {a:Addr}{o:HO}(e:H a=some o):upd H a o=H:=funext fun b=>by
 by_cases q:b=a
 ·subst q;rw[zA5];exact e.symm
 ·rw[zA2 q]
end
section
variable {X:Cx}{K:PySem.W.Frag}{E:XE}{e:Expr}{es:List Expr}{x:Str}{p pos:Pos}{k:Nat}{f:Addr}{fd:FuncData}{ps:List Str}{F:DS.Fn}{am:DS.AM}{m mc:DS.EM}{ms:DS.SM}
theorem zU5 (Fn:FnOk X.prog X.w X.K X.mg X.base (CXE X.prog X.w) k f fd ps (spX K F)) (hr:Room k X.A) (hg:Gl X x) (hm:X.mg x=some (.ref f)) (hk:PySem.W.keepIn X.K (.ref f)=true) (hb:Binds X.K fd ps []) (ha:DA X.nox K XE0 (e::es) am)
  (hdb:(x == ("__debug__":Str))=false:=by decide) (he:starEach (e::es) X.env=(false,eval e X.env)::starEach es X.env:=by rfl) (hpl:(backTo pos (starEach es X.env)).any (·.1)=false:=by rfl):
  DX X K (.Call (.Name x p) (e::es) [] pos) (DS.zA8 F (DS.neR am)):=⟨(zS6 Fn hr hg hm hk hb (fun Z=>PA.nox (X:=X.wish Z) ha.h.h) hdb he hpl).imp fun σ H Q R ⟨env,S,J,hab,hen,q⟩=>
 ⟨env,S,J,hab,hen,(Post.ne q.bind).imp fun ds S1 J1 H1 _ a1 g1 q1 xs rx=>⟨J1,S1,ds,a1,rx,Post.impE (fun x S J H h d a ex r=>⟨a,rfl,h d a ex r⟩) q1⟩⟩⟩
theorem zYg {c:Expr}{x1} (hc:DE X.nox K XE0 c mc) (he:DX X K e m) (h1:starEach [c,e] X.env=[(false,eval c X.env),(false,eval e X.env)]:=by rfl):DX X K (.Tuple [c,e] x1 pos) (DS.zMg (DS.neR mc) m):=
 ⟨(zW7 (fun Z=>PE.nox (X:=X.wish Z) hc.h.h) he.h h1).imp fun σ H Q R ⟨env,S,J,hab,hen,q⟩=>⟨env,S,J,hab,hen,(Post.ne q.bind).imp fun dc S1 J1 H1 _ a1 g1 q1 v rv=>⟨env,S1,J1,a1,hen.grow g1,q1.bind.imp fun d S2 J2 H2 _ a2 g2 q2 y ry p n=>
  q2 J2 (upd H2 p (.tup [v,y])) (a2.push n) (.push n) (.ref p) ⟨p,[v,y],rfl,⟨zA5,a2.out n⟩,v,[y],rfl,Rep.grow (g2.trans (.push n)) dc v rv,y,[],rfl,Rep.grow (.push n) d y ry,rfl⟩⟩⟩⟩
theorem zUe {i j:Nat}{n cn:Str}{Cc:Addr}{b0:Stmt}{suite:List Stmt}{p1 p2 np hp:Pos}{isC:Int->Bool}(ow:Own X) (hN:X.N.Nodup) (hi:X.N[i]?=some x) (hx:Loc X.env.scope x) (he:DX X K e m) (hs:swapsWith e (some (.Name x p1)) p2.line X.env=pure false) (hf:X.fn x=true\/X.env.scope.names.lookup x=some .local)
  (hj:X.N[j]?=some n) (hnl:X.env.scope.names.lookup n=some .local) (hg:Gl X cn) (hm:X.mg cn=some (.ref Cc)) (hC:∀C:Nat,isC C=true->PySem.W.exmOne X.K (.ref C) (.ref Cc)=some true) (hsu:∀a Z,DSs (X.handl (.ref a) Z) K XE0 (b0::suite) ms) (hdb:(cn == ("__debug__":Str))=false:=by decide):
  DS1 X K E (.Try [.Assign [.Name x p1] e p2] [.ExceptHandler (some (.Name cn np)) (some n) (b0::suite) hp] [] [] pos) (DS.sTry isC i j m (DS.neS ms)):=by
 refine⟨SS.imp ⟨zWe ow hN hi hx he.h hs hf hj hnl hg hm (fun a Z=>(hsu a Z).h.h) hdb⟩ ?_⟩
 intro D σ H hq40
 obtain⟨env,S,J,hab,hen,q⟩:=hq40
 refine⟨env,S,J,hab,hen,?_⟩
 unfold DS.sTry at q
 cases em:m env S with
 | ok d S'=>
  rw[em]at q
  exact fun J' H' a1 g1 v rv=>q J' H' _ a1 g1 ((hen.grow g1).set rv)
 | bad=>rw[em]at q;exact q
 | ex x S'=>
  rw[em]at q
  intro J' H' a1 g1 d a ex r fw
  subst ex
  cases d with
  | st l=>
   obtain⟨a',C,dx,fr,xs,ea,na,h,fs,rx⟩:=r
   cases ea
   cases l with
   | nil=>exact False.elim rx
   | cons c l=>
    cases c with
    | int c=>
     obtain⟨rfl,rf⟩:=rx
     have q:PostS K E J H (if isC C=true then(match DS.neS ms (env.set j (some (.st (.int C::l)))) S' with
      | .nx e S2=>.nx (e.set j none) S2
      | _=>.bad)else .bad) D:=q
     by_cases ic:isC C=true
     ·rw[xc ic]at q
      have hF:=fw C dx fr h
      refine⟨C,dx,fr,h,hC C ic,?_⟩
      rw[zVf hF]
      refine⟨_,S',J',a1,(hen.grow g1).set (d:=.st (.int C::l)) ⟨a,C,dx,fr,xs,rfl,na,h,fs,rfl,rf⟩,?_⟩
      unfold DS.neS at q
      cases es:ms (env.set j (some (.st (.int C::l)))) S' with
      | nx e2 S2=>
       rw[es]at q
       exact fun J2 H2 σ2 a2 g2 r2=>q J2 H2 _ a2 (g1.trans g2) r2.unset
      | ex x S2=>rw[es]at q;exact False.elim q
      | bad=>rw[es]at q;exact False.elim q
      | rt d S2=>rw[es]at q;exact False.elim q
      | bk d S2=>rw[es]at q;exact False.elim q
      | ct d S2=>rw[es]at q;exact False.elim q
     ·rw[xf ic]at q;exact False.elim q
    | _=>exact False.elim rx
  | _=>exact False.elim q
end
end L2
namespace L2
open PySem PySem.Spec PyProof.Rows
open DS (D Store Exn Rs SR)
structure ClsX (K:PySem.W.Frag) (C:Addr):Prop where
 cl:ClsE K C
 ha:PySem.W.findIn K (.ref C) "__class__"=some (some (.builtin "object.__class__"))
 hn:PySem.W.specialIn K (.builtin "object.__class__") "__get__"=some (some (.builtin "getset_descriptor.__get__"))
 htk:PySem.W.takesIn K (.builtin "object.__class__")=some true
section
variable {X:Cx}{K:PySem.W.Frag}{E:XE}{J:Js}{H:Hp}{e c:Expr}{f:Str}{p p2 pos:Pos}{m:DS.EM}{d:D}{te:TE}
theorem zMb:∀{l:List D}{xs:List (Str × V)}{d:D},RepF K J H l xs->DS.fldL f l=some d->∃v,xs.lookup f=some v/\Rep K J H d v
 | [],_,_,_,e=>by cases e
 | .str g::d::l,_,d',⟨x,r,ex,h,t⟩,e=>by
  subst ex
  unfold DS.fldL at e
  by_cases q:(f == g)=true
  ·rw[xc q]at e;cases e
   exact⟨x,by rw[xU,q],h⟩
  ·rw[xf q]at e
   obtain⟨v,h1,h2⟩:=zMb t e
   exact⟨v,by rw[xU,uD.mpr q];exact h1,h2⟩
theorem zZb {okC:Int->Bool}(hC:∀C:Nat,okC C=true->ClsE K C/\NoAttr K C f) (he:DE X K E e m) (hb:attributeBase e f X.env (eval e X.env)=eval e X.env:=by rfl) (hK:X.K=K:=by rfl):DE X K E (.Attribute e f pos) (DS.eFld okC f m):=by
 subst hK
 refine⟨SE.imp ⟨yA7 he.h.h hb⟩ fun σ H Q ⟨env,S,J,hab,hen,q⟩=>⟨env,S,J,hab,hen,q.bind.imp fun d S1 J1 H1 _ a1 g1 q1 v rv=>?_⟩⟩
 obtain⟨d',ed,k⟩:=q1.lift
 unfold DS.fldX at ed
 split at ed
 ·rename_i c l
  obtain⟨a,C,dx,fr,xs,rfl,na,h,fs,rfl,rf⟩:=rv
  by_cases oc:okC C=true
  ·rw[xc oc]at ed
   obtain⟨w,hw,rw'⟩:=zMb rf ed
   rcases fs with⟨_,rfl⟩|⟨dx,rfl,_,hd⟩
   ·cases hw
   ·exact⟨a,C,dx,fr,xs,w,rfl,h,hd,(hC C oc).1,(hC C oc).2,hw,k J1 H1 a1 .refl w rw'⟩
  ·rw[xf oc]at ed;cases ed
 ·cases ed
theorem XFs.there {dx:Option Addr}{xs:List (Str × V)}(h:XFs J H dx xs):∀d,dx=some d->∃fs,H d=some (.xd fs):=fun d e=>by
 rcases h with⟨z,_⟩|⟨d',z,_,hd⟩
 ·rw[z]at e;cases e
 ·rw[z]at e;cases e;exact⟨_,hd⟩
theorem zIl:zAu X (.builtin "isinstance") (fun xs H Q=>∃a C dx fr y b,xs=[.ref a,y]/\H a=some (.ext (XO a C dx fr))/\(∀d,dx=some d->∃fs,H d=some (.xd fs))/\ClsX X.K C /\
  ((∃cv,(∀u,RelV y u->u=cv)/\PySem.W.kitOne X.K (.ref C) cv=some b)\/∃tp ys its,y=.ref tp/\H tp=some (.tup ys)/\(∀us,Vals ys us->us=its)/\PySem.W.kitAny X.K (.ref C) its=some b)/\Q (.bl b) H):=by
 intro pins s σ H xs us Q I r hq41
 obtain⟨a,C,dx,fr,y,b,ex,ea,ed,cx,hk,q⟩:=hq41
 subst ex
 obtain⟨u,w',rfl,ru,rw'⟩:=vals2 r
 cases(show u=Value.ref a from ru)
 obtain⟨⟨vs,sl,he,_⟩,_⟩:=I.hok a _ ea
 obtain⟨od,J⟩:∃od,PySem.W.InstAt s.heap a ⟨.ref C,dx,.fields vs,sl⟩ C od:=by
  cases dx with
  | none=>exact⟨none,he,rfl,rfl,trivial⟩
  | some d=>
   obtain⟨fs,ed⟩:=ed d rfl
   obtain⟨mA,hn,_⟩:=I.hok d _ ed
   obtain⟨od,ho,_⟩:=zFj hn
   exact⟨some od,he,rfl,rfl,ho⟩
 have Z:=zP4 (x:=a) (ox:=⟨.ref C,dx,.fields vs,sl⟩) (od:=od) cx.cl cx.ha cx.hn cx.htk
 rcases hk with⟨cv,hc,ek⟩|⟨tp,ys,its,rfl,et,hv,ek⟩
 ·cases hc w' rw'
  exact PySem.W.kia_one Z I.kIn J ek (fun z=>nomatch z) fun tk=>⟨.bl b,H,I.tok _,rfl,q⟩
 ·cases(show w'=Value.ref tp from rw')
  obtain⟨_,us,vv,pp⟩:=(show ObjOk X.prog X.w H s.heap tp (.tup ys)from I.hok tp _ et)
  obtain⟨o,h1,h2,n,h3⟩:=pp
  cases hv us vv
  obtain⟨oc,od',odt,osl⟩:=o
  dsimp only at h2 h3
  subst h2 h3
  exact PySem.W.kia_tup Z I.kIn J h1 ek (fun z=>nomatch z) fun tk=>⟨.bl b,H,I.tok _,rfl,q⟩
theorem zR6 {y:V}{cv:Value}{g:Int->Option Bool}(hC:∀(C:Nat) (b:Bool),g C=some b->ClsX K C/\PySem.W.kitOne K (.ref C) cv=some b) (hy:∀u,RelV y u->u=cv) (hg:Gl X "isinstance") (hm:X.mg "isinstance"=none) (hv:bootBuiltins "isinstance"=some (.builtin "isinstance")) (he:DE X K E e m) (hc:SE X c (tC y)) (h:[e,c].all nst=true:=by rfl)
  (hK:X.K=K:=by rfl):DE X K E (.Call (.Name "isinstance" p) [e,c] [] pos) (DS.eIsX g m):=by
 subst hK
 refine⟨SE.imp (zGh zIl hg hm hv (qa' he.h (qa' hc pa_nil' (by simp at h;exact h.2)) (by simp at h;exact h.1)) (by decide) (by decide) h) fun σ H Q ⟨env,S,J,hab,hen,q⟩=>⟨env,S,J,hab,hen,q.bind.imp fun d S1 J1 H1 _ a1 g1 q1 v rv=>?_⟩⟩
 obtain⟨d',ed,k⟩:=q1.lift
 unfold DS.isX at ed
 split at ed
 ·rename_i c l
  obtain⟨a,C,dx,fr,xs,rfl,na,h,fs,rfl,_⟩:=rv
  cases eg:g C with
  | none=>rw[eg]at ed;cases ed
  | some b=>
   rw[eg]at ed;cases ed
   exact⟨a,C,dx,fr,y,b,rfl,h,fs.there,(hC C b eg).1,.inl ⟨cv,hy,(hC C b eg).2⟩,k J1 H1 a1 .refl _ rfl⟩
 ·cases ed
theorem zUt {cs:List Expr}{kk:Nat}{ta:TA}{ys:List V}{its:List Value}{g:Int->Option Bool}(hC:∀(C:Nat) (b:Bool),g C=some b->ClsX K C/\PySem.W.kitAny K (.ref C) its=some b) (hy:∀us,Vals ys us->us=its) (hl:ys.length<=1000) (hg:Gl X "isinstance") (hm:X.mg "isinstance"=none) (hv:bootBuiltins "isinstance"=some (.builtin "isinstance")) (he:DE X K E e m)
  (hc:SA X cs ta) (ht:∀σ H Q,Q ys H->ta σ H Q) (h:[e,.Tuple cs kk p2].all nst=true:=by rfl) (hK:X.K=K:=by rfl):DE X K E (.Call (.Name "isinstance" p) [e,.Tuple cs kk p2] [] pos) (DS.eIsX g m):=by
 subst hK
 refine⟨SE.imp (zGh zIl hg hm hv (qa' he.h (qa' (zKz hc) pa_nil' (by simp at h;exact h.2)) (by simp at h;exact h.1)) (by decide) (by decide) h) fun σ H Q ⟨env,S,J,hab,hen,q⟩=>⟨env,S,J,hab,hen,q.bind.imp fun d S1 J1 H1 _ a1 g1 q1 v rv=>?_⟩⟩
 obtain⟨d',ed,k⟩:=q1.lift
 unfold DS.isX at ed
 split at ed
 ·rename_i c l
  obtain⟨a,C,dx,fr,xs,rfl,na,h,fs,rfl,_⟩:=rv
  cases eg:g C with
  | none=>rw[eg]at ed;cases ed
  | some b=>
   rw[eg]at ed;cases ed
   refine ht _ _ _ ⟨xp hl (by decide),fun p n=>?_⟩
   exact⟨a,C,dx,fr,.ref p,b,rfl,zBr n _ _ h,(fun d ed=>by obtain⟨fs,hd⟩:=fs.there d ed;exact⟨fs,zBr n _ _ hd⟩),(hC C b eg).1,.inr ⟨p,ys,its,rfl,zA5,hy,(hC C b eg).2⟩,k J1 _ (a1.push n) (.push n) _ rfl⟩
 ·cases ed
end
end L2
namespace L2
open PySem PySem.Spec PyProof.Rows
open DS (D Store Exn Rs SR)
theorem zQu {l:List Nat}{C:Nat}(h:DS.inC l (C:Int)=true):C∈l:=by
 obtain⟨n,hn,e⟩:=uW.mp h
 have:C=n:=by have:=eq_of_beq e;lia
 rw[this];exact hn
theorem zLn {l:List (Nat × Bool)}{C:Nat}{b:Bool}(h:DS.lkC l (C:Int)=some b):(C,b)∈l:=by
 unfold DS.lkC at h
 cases e:l.find? fun p=>(C:Int) == (p.1:Int)with
 | none=>rw[e]at h;cases h
 | some p=>
  rw[e]at h
  cases h
  have h1:=List.find?_some e
  have:C=p.1:=by have:=eq_of_beq h1;lia
  rw[this];exact List.mem_of_find?_eq_some e
noncomputable def clsB (K:PySem.W.Frag) (C:Addr):Bool:=PySem.W.findIn K (.ref C) "__getattribute__" == some (some (.builtin "BaseException.__getattribute__")) && (PySem.W.findIn K (.ref C) "__getattr__" == some none && (PySem.W.hasDictIn K C && (zMc K C && (PySem.W.findIn K (.ref C) "__setattr__" == some (some (.builtin "object.__setattr__")) && (PySem.W.mroIn K C (.type "BaseException") == some true && PySem.W.mroIn K C (.type "object") == some true)))))
theorem zEy {K:PySem.W.Frag}{C:Addr}(h:clsB K C=true):ClsE K C:=by
 simp only[clsB,xm,xQ]at h
 exact⟨h.1,h.2.1,h.2.2.1,h.2.2.2.1,h.2.2.2.2.1,h.2.2.2.2.2.1,h.2.2.2.2.2.2⟩
noncomputable def noaB (K:PySem.W.Frag) (C:Addr) (f:Str):Bool:=PySem.W.findIn K (.ref C) f == some none
noncomputable def clxB (K:PySem.W.Frag) (C:Addr):Bool:=clsB K C && (PySem.W.findIn K (.ref C) "__class__" == some (some (.builtin "object.__class__")) && (PySem.W.specialIn K (.builtin "object.__class__") "__get__" == some (some (.builtin "getset_descriptor.__get__")) && PySem.W.takesIn K (.builtin "object.__class__") == some true))
theorem zEx {K:PySem.W.Frag}{C:Addr}(h:clxB K C=true):ClsX K C:=by
 simp only[clxB,xm,xQ]at h
 exact⟨zEy h.1,h.2.1,h.2.2.1,h.2.2.2⟩
noncomputable def clnB (X:Cx) (K:PySem.W.Frag) (x:Str) (C:Addr):Bool:=glB X x && (!(x == ("__debug__":Str)) && PySem.W.nsIn K mainGlobals x == some (some (.ref C)))
theorem zCs {X:Cx}{K:PySem.W.Frag}{x:Str}{C:Addr}(G:Gd K X.mg) (h:clnB X K x C=true):Gl X x/\(x == ("__debug__":Str))=false/\X.mg x=some (.ref C):=by
 simp only[clnB,xm,vM,xQ]at h
 exact⟨zBy h.1,h.2.1,G.a _ _ h.2.2⟩
structure CalX (P:Program) (w:World) (K:PySem.W.Frag) (mg:Str->Option Value) (base:Heap) (x:Str) (k:Nat) (ps:List Str) (F:DS.Fn):Prop where
 ex:∃f fd,FnOk P w K mg base (CXE P w) k f fd ps (spX K F)/\mg x=some (.ref f)/\PySem.W.keepIn K (.ref f)=true/\Binds K fd ps []
structure IniX (P:Program) (w:World) (K:PySem.W.Frag) (mg:Str->Option Value) (base:Heap) (C:Addr) (fl:Str):Prop where
 ex:∃f fd s0 x0,FnOk P w K mg base CX0 1 f fd [s0,x0] (spI K fl)/\Binds K fd [s0,x0] []/\zFp K C f [.type "ValueError",.type "Exception",.type "BaseException",.type "object"] "ValueError.__new__"=true
section
variable {P:Program}{w:World}{K:PySem.W.Frag}{mg:Str->Option Value}{base:Heap}
theorem yBd (G:Gd K mg) (f cd:Addr) (tq:Stmt) (pm:Value) (N:List Str) {x:Str}{ps:List Str}{k:Nat}{b:DS.SM}
  (hb:∀(cdv:Value) (A:Around) (outer:List PySem.Env) (s:Shared) (H:Hp) (E:XK),Room k (A.deeper (envOfC x (zA1 tq) s.heap.objs.size f cdv))->DSs (cxOf (CXE P w) P w K mg base N x (zA1 tq) f cdv A outer s H E) K (xeOf K E) (zAa tq) b)
  (l:K.lookup f=some (fO x tq pm cd)) (c:(PySem.W.codeIn K (.ref cd) x && (PySem.W.keepIn K (.ref f) && scB N ps (zA1 tq)))=true) (hm:PySem.W.nsIn K mainGlobals x=some (some (.ref f)))
  (bd:∀(kV doc pm:Value) (an:Option Addr) (cdv ct:Value) (us:List Value),us.length=ps.length->bindArgs (PySem.W.fnOf x x (zAx tq) (zAa tq) (zA1 tq) .none kV doc pm an cdv ct) ⟨us,[]⟩=pure (ps.zip us)):CalX P w K mg base x (k+1) ps (DS.zAi ps.length N.length b):=by
 rw[xm,xm]at c
 have F:=zI7 l c.1 c.2.1
 exact⟨_,_,fn_x F (zCz c.2.2) rfl rfl hb,G.a _ _ hm,F.kp,F.binds bd⟩
noncomputable abbrev iO (q:Str) (tq:Stmt) (pm:Value) (cd:Addr):Obj:=⟨.type "function",none,.func (PySem.W.fnOf "__init__" q (zAx tq) (zAa tq) (zA1 tq) .none .none .none pm none (.ref cd) .none),#[]⟩
noncomputable def iniB (tq:Stmt) (s0 x0 fl:Str):Bool:=(match zAa tq with
 | [.Assign [.Attribute (.Name a _) g _] (.Name b _) _]=>a == s0 && (b == x0 && g == fl)
 | _=>false) && (visB ((zA1 tq).names.lookup s0) && (visB ((zA1 tq).names.lookup x0) && (!(s0 == ("__debug__":Str)) && (!(x0 == ("__debug__":Str)) && (!(s0 == ("__classdict__":Str)) && !(x0 == ("__classdict__":Str)))))))
theorem yAq (f cd C:Addr) (q:Str) (tq:Stmt) (pm:Value) (s0 x0 fl:Str) (l:K.lookup f=some (iO q tq pm cd)) (c:(PySem.W.codeIn K (.ref cd) q && (PySem.W.keepIn K (.ref f) && (scB [s0,x0] [s0,x0] (zA1 tq) && (iniB tq s0 x0 fl && zFp K C f [.type "ValueError",.type "Exception",.type "BaseException",.type "object"] "ValueError.__new__"))))=true)
  (bd:∀(kV doc pm:Value) (an:Option Addr) (cdv ct:Value) (us:List Value),us.length=[s0,x0].length->bindArgs (PySem.W.fnOf "__init__" q (zAx tq) (zAa tq) (zA1 tq) .none kV doc pm an cdv ct) ⟨us,[]⟩=pure ([s0,x0].zip us)):IniX P w K mg base C fl:=by
 simp only[xm]at c
 obtain⟨c1,c2,c3,c4,c5⟩:=c
 have F:Fun K "__init__" q tq f _:=zQy l c1 c2
 simp only[iniB,xm,vM]at c4
 obtain⟨b0,v0,v1,d0,d1,e0,e1⟩:=c4
 split at b0
 ·rename_i a p1 g p2 b p3 p4 hb
  simp only[xm,xQ]at b0
  obtain⟨rfl,rfl,rfl⟩:=b0
  exact⟨f,_,_,_,zTs F (zCz c3) hb (zE2 v0) (zE2 v1) d0 d1 e0 e1,F.binds bd,c5⟩
 ·cases b0
end
section
variable {X:Cx}{K:PySem.W.Frag}{E:XE}{e c:Expr}{es:List Expr}{x:Str}{p pos:Pos}{k:Nat}{ps:List Str}{F:DS.Fn}{am:DS.AM}{m mc:DS.EM}{ms:DS.SM}
theorem zYh (C:CalX X.prog X.w X.K X.mg X.base x k ps F) (hr:Room k X.A) (h:zH0 X x (e::es)=true) (ha:DA X.nox K XE0 (e::es) am) (hK:X.K=K:=by rfl):DX X K (.Call (.Name x p) (e::es) [] pos) (DS.zA8 F (DS.neR am)):=by
 subst hK
 obtain⟨f,fd,Fn,hm,hk,hb⟩:=C.ex
 have z:=zBk h
 have z2:=z.2.2.2
 rw[vw,xm]at z2
 exact zU5 Fn hr z.1 hm hk hb ha z.2.1 (zAo z2.1) (zCf z2.2)
noncomputable def tryB (X:Cx) (K:PySem.W.Frag) (i j:Nat) (x n cn:Str) (e:Expr) (Cc:Addr) (l:List Nat):Bool:=setB X i x && (X.N[j]? == some n && (X.env.scope.names.lookup n == some .local && (clnB X K cn Cc && l.all fun C=>PySem.W.exmOne K (.ref C) (.ref Cc) == some true)))
theorem zYl (G:Gd K X.mg) {i j:Nat}{n cn:Str}(Cc:Addr) {b0:Stmt}{suite:List Stmt}{p1 p2 np hp:Pos}{l:List Nat}(h:tryB X K i j x n cn e Cc l=true) (ow:Own X) (hs:swapsWith e (some (.Name x p1)) p2.line X.env=pure false) (he:DX X K e m)
  (hsu:∀a Z,DSs (X.handl (.ref a) Z) K XE0 (b0::suite) ms) (hK:X.K=K):
  DS1 X K E (.Try [.Assign [.Name x p1] e p2] [.ExceptHandler (some (.Name cn np)) (some n) (b0::suite) hp] [] [] pos) (DS.sTry (DS.inC l) i j m (DS.neS ms)):=by
 subst hK
 simp only[tryB,xm,xQ,xO]at h
 obtain⟨h1,h2,h3,h4,h5⟩:=h
 have z:=zCn h1
 have y:=zCs G h4
 exact zUe ow z.1 z.2.1 z.2.2.1 he hs z.2.2.2 h2 h3 y.1 y.2.2 (fun C hC=>h5 C (zQu hC)) hsu y.2.1
theorem zYq {f:Str}{l:List Nat}(h:(nba e && l.all fun C=>clsB K C && noaB K C f)=true) (he:DE X K E e m) (hK:X.K=K:=by rfl) (hb:attributeBase e f X.env (eval e X.env)=eval e X.env:=by rfl):DE X K E (.Attribute e f pos) (DS.eFld (DS.inC l) f m):=by
 simp only[xm,xO]at h
 exact zZb (fun C hC=>by
  have:=h.2 C (zQu hC)
  exact⟨zEy this.1,by simpa[noaB,NoAttr]using this.2⟩) he hb hK
noncomputable def isxB (X:Cx) (K:PySem.W.Frag) (e:Expr) (cv:Value) (l:List (Nat × Bool)):Bool:=nst e && (glB X "isinstance" && (PySem.W.nsIn K mainGlobals "isinstance" == some none && l.all fun q=>clxB K q.1 && PySem.W.kitOne K (.ref q.1) cv == some q.2))
theorem zYo (G:Gd K X.mg) {cn:Str}{p2:Pos}(Cc:Addr) {l:List (Nat × Bool)}(h:(clnB X K cn Cc && isxB X K e (.ref Cc) l)=true) (he:DE X K E e m) (hK:X.K=K):DE X K E (.Call (.Name "isinstance" p) [e,.Name cn p2] [] pos) (DS.eIsX (DS.lkC l) m):=by
 simp only[isxB,xm,xQ,xO]at h
 obtain⟨h0,h1,h2,h3,h4⟩:=h
 have y:=zCs G h0
 exact zR6 (y:=.ref Cc) (fun C b hC=>by
  have:=h4 _ (zLn hC)
  exact⟨zEx this.1,this.2⟩) (fun u r=>r) (zBy h2) (G.z _ h3) yh he (zCo (v:=.ref Cc) y.1 y.2.2 rfl y.2.1) (by simp[h1];rfl) hK
theorem zV0:bootBuiltins "ValueError"=some (.type "ValueError"):=by kernel_rfl
theorem zYp (G:Gd K X.mg) {cn:Str}{p2:Pos}(T:String) {l:List (Nat × Bool)}(hv:bootBuiltins cn=some (.type T)) (h:(zH0 X cn [] && (PySem.W.nsIn K mainGlobals cn == some none && isxB X K e (.type T) l))=true) (he:DE X K E e m) (hK:X.K=K):DE X K E (.Call (.Name "isinstance" p) [e,.Name cn p2] [] pos) (DS.eIsX (DS.lkC l) m):=by
 simp only[isxB,xm,xQ,xO]at h
 obtain⟨h0,hz,h1,h2,h3,h4⟩:=h
 have y:=zBk h0
 exact zR6 (y:=.ty T) (fun C b hC=>by
  have:=h4 _ (zLn hC)
  exact⟨zEx this.1,this.2⟩) (fun u r=>r) (zBy h2) (G.z _ h3) yh he (zOp (v:=.ty T) y.1 (G.z _ hz) hv rfl y.2.2.1 y.2.1) (by simp[h1];rfl) hK
noncomputable def zQ0 (X:Cx) (K:PySem.W.Frag):List Expr->List Addr->Bool
 | [],[]=>true
 | .Name x _::r,a::t=>clnB X K x a && zQ0 X K r t
 | _,_=>false
theorem zMt (G:Gd K X.mg):∀{cs:List Expr}{as:List Addr},zQ0 X K cs as=true->∃ta,SA X cs ta/\∀σ H Q,Q (as.map V.ref) H->ta σ H Q
 | [],[],_=>⟨_,pa_nil',fun σ H Q q=>q⟩
 | .Name x _::r,a::t,h=>by
  rw[zQ0,xm]at h
  have y:=zCs G h.1
  obtain⟨ta,h1,h2⟩:=zMt G h.2
  exact⟨_,qa' (zCo (v:=.ref a) y.1 y.2.2 rfl y.2.1) h1,fun σ H Q q=>h2 σ H _ q⟩
theorem zHr:∀{as:List Addr}{us:List Value},Vals (as.map V.ref) us->us=as.map Value.ref
 | [],_,.nil=>rfl
 | a::as,_,.cons r h=>by rw[xx,zHr h,show _=Value.ref a from r]
theorem zUa (G:Gd K X.mg) {cs:List Expr}{kk:Nat}{p2:Pos}(as:List Addr) {l:List (Nat × Bool)}(h:(zQ0 X K cs as && (nst e && (decide (as.length<=1000) && (glB X "isinstance" && (PySem.W.nsIn K mainGlobals "isinstance" == some none && l.all fun q=>clxB K q.1 && PySem.W.kitAny K (.ref q.1) (as.map .ref) == some q.2)))))=true) (he:DE X K E e m) (hK:X.K=K):
  DE X K E (.Call (.Name "isinstance" p) [e,.Tuple cs kk p2] [] pos) (DS.eIsX (DS.lkC l) m):=by
 simp only[xm,xQ,xO,decide_eq_true_eq]at h
 obtain⟨h0,h1,hl,h2,h3,h4⟩:=h
 obtain⟨ta,s1,s2⟩:=zMt G h0
 exact zUt (fun C b hC=>by
  have:=h4 _ (zLn hC)
  exact⟨zEx this.1,this.2⟩) (fun us r=>zHr r) (by rw[xq];exact hl) (zBy h2) (G.z _ h3) yh he s1 s2 (by simp[h1];rfl) hK
end
section
variable {P:Program}{w:World}{K:PySem.W.Frag}{mg:Str->Option Value}{base:Heap}{N:List Str}{qual:Str}{scope:Scope}{f:Addr}{cd:Value}{A:Around}{outer:List Env}{s:Shared}{H:Hp}{EX:XK}
theorem zPk (G:Gd K mg) {C:Nat}{fl cn:Str}{e:Expr}{am:DS.AM}{p pos pos':Pos}(I:IniX P w K mg base C fl) (hr:Room 2 (cxOf (CXE P w) P w K mg base N qual scope f cd A outer s H EX).A)
  (h:(nst e && (clnB (cxOf (CXE P w) P w K mg base N qual scope f cd A outer s H EX) K cn C && (PySem.W.keepIn K (.ref C) && (clsB K C && (noaB K C fl && zFq K C)))))=true)
  (ha:DA (cxOf (CXE P w) P w K mg base N qual scope f cd A outer s H EX) K (xeOf K EX) [e] am):
  DS1 (cxOf (CXE P w) P w K mg base N qual scope f cd A outer s H EX) K (xeOf K EX) (.Raise (some (.Call (.Name cn p) [e] [] pos)) none pos') (DS.zKj (DS.mkX C fl) am):=by
 simp only[xm]at h
 obtain⟨h0,h1,h2,h3,h4,h5⟩:=h
 have y:=zCs (X:=cxOf (CXE P w) P w K mg base N qual scope f cd A outer s H EX) G h1
 obtain⟨fI,fd,s0,x0,F,hb,M⟩:=I.ex
 exact zMj PySem.F.excBase_ValueError M F hr hb y.1 y.2.2 h2 (zEy h3) (by simpa[noaB,NoAttr]using h4) h5 ha y.2.1 (zAo h0)
end
end L2
namespace Law
open PySem PySem.Spec PyProof.Rows L2
noncomputable abbrev n_0:List Str:=["text","figures","digits"]
noncomputable abbrev n_1:List Str:=["text","many","figures","words"]
noncomputable abbrev n_2:List Str:=["_law_script","_law_base","_law_cells","_law_number_here","_law_cell"]
noncomputable abbrev n_3:List Str:=["_law_text","_law_found","_law_word","_law_numbers"]
noncomputable abbrev n_4:List Str:=["_law_script","_law_deal_here","_law_many","_law_some","_law_k","_law_far","_law_text","_law_good"]
noncomputable abbrev n_5:List Str:=["_law_deal_here","_law_many","_law_number_here","_law_one","_law_other"]
noncomputable abbrev n_6:List Str:=["_law_word","_law_turn","_law_figures","_law_number_here","_law_sign_here"]
noncomputable abbrev n_7:List Str:=["text","many","figures"]
noncomputable abbrev n_8:List Str:=["_law_deal_here","_law_near","_law_signs"]
noncomputable abbrev n_9:List Str:=["_law_deal_here","_law_text","_law_way","_law_at","_law_words","_law_k"]
noncomputable abbrev n_10:List Str:=["_law_text","_law_said","e"]
noncomputable def top (i:Nat):Stmt:=PySem.Challenge.pw_healfloor_k44_island_texts_refused.main.body.getD i (.Pass ⟨0,0,0,0⟩)
noncomputable def topc (i j:Nat):Stmt:=match top i with
 | .ClassDef _ _ _ b _ _ _ _ _ _ _=>b.getD j (.Pass ⟨0,0,0,0⟩)
 | _=>.Pass ⟨0,0,0,0⟩
noncomputable abbrev kD (P:Params) (l:List (Str × Tok × Value)):Array DictEntry:=(l.map fun x=>⟨PyData.keyHash P x.1,.str x.1 x.2.1,x.2.2⟩).toArray
noncomputable abbrev mA_:Value:=(.str "healfloor.rows" 314)
noncomputable abbrev mB_:Value:=(.str "healfloor.words" 322)
noncomputable abbrev mC_:Value:=(.str "law_healfloor_k44_island_texts_refused" 348)
noncomputable abbrev mD_:Value:=(.str "healfloor.islandtexts" 336)
noncomputable abbrev cO (x f:Str) (t:Tok) (l n c:Int) (a:Addr) (g:Int) (v:List Value) (k:Int) (u:Tok):Obj:=⟨.type "code",none,.fields (([.str x t,.str x (t+1),.str f (t+2),.int l 0,.int n 0,.int 0 0,.int 0 0,.int c 0,.ref a,.bool true,.int g 0]:List Value)++v++([.int k 0,.int l 0,.str f u]:List Value)).toArray,#[]⟩
noncomputable abbrev mI_:Value:=(.str "healfloor.errors" 187)
noncomputable def KF (P:Params):PySem.W.Frag:=[
 (3,⟨(.type "dict"),none,(.dict (kD P [("__name__",165,(.str "law_healfloor_k44_island_texts_refused" 348)),("__doc__",166,.none),("__package__",167,.none),("__loader__",168,(.builtin "__main__.__loader__#opaque")),("__spec__",169,.none),("__annotations__",170,(.ref 6)),("__builtins__",171,(.ref 4)),("__file__",173,(.str "/claim/cut.py" 172)),("__cached__",174,.none),("FloorError",206,(.ref 24)),("NoName",231,(.ref 44)),("NoText",256,(.ref 63)),("TooMany",281,(.ref 82)),("NotPaper",297,(.ref 94)),("NoDeed",313,(.ref 106)),("is_rising",321,(.ref 113)),("is_number",329,(.ref 118)),("read_numbers",335,(.ref 123)),("EMPTY",339,(.str "." 338)),("MOST_FIGURES",341,(.int (19) 340)),("read_island",347,(.ref 128)),("_law_deal",355,(.ref 133)),("_law_draw",366,(.ref 140)),("_law_number",377,(.ref 147)),("_law_reads",383,(.ref 152)),("_law_sign",392,(.ref 159)),("_law_changed",404,(.ref 166)),("_law_told",413,(.ref 173)),("_law_right",421,(.ref 180)),("law",427,(.ref 185))]) 30),#[]⟩),
 (112,cO "is_rising" "/claim/cut.py" 316 21 1 3 109 181 [.ref 110,.none,.none,.none,.ref 111] 319 320),
 (113,fO "is_rising" (top 8) mA_ 112),
 (117,cO "is_number" "/claim/cut.py" 324 24 2 3 114 181 [.ref 115,.none,.none,.none,.ref 116] 327 328),
 (118,fO "is_number" (top 10) mB_ 117),
 (122,cO "read_numbers" "/claim/cut.py" 330 31 3 3 119 181 [.ref 120,.none,.none,.none,.ref 121] 333 334),
 (123,fO "read_numbers" (top 11) mB_ 122),
 (127,cO "read_island" "/claim/cut.py" 342 39 1 3 124 181 [.ref 125,.none,.none,.none,.ref 126] 345 346),
 (128,fO "read_island" (top 15) mD_ 127),
 (132,cO "_law_deal" "/claim/cut.py" 350 47 2 3 129 181 [.ref 130,.none,.none,.none,.ref 131] 353 354),
 (133,fO "_law_deal" (top 17) mC_ 132),
 (139,cO "_law_draw" "/claim/cut.py" 356 53 2 3 134 181 [.ref 135,.none,.ref 136,.ref 137,.ref 138] 364 365),
 (140,fO "_law_draw" (top 18) mC_ 139),
 (146,cO "_law_number" "/claim/cut.py" 367 64 1 3 141 181 [.ref 142,.none,.ref 143,.ref 144,.ref 145] 375 376),
 (147,fO "_law_number" (top 19) mC_ 146),
 (151,cO "_law_reads" "/claim/cut.py" 378 76 1 3 148 181 [.ref 149,.none,.none,.none,.ref 150] 381 382),
 (152,fO "_law_reads" (top 20) mC_ 151),
 (158,cO "_law_sign" "/claim/cut.py" 384 86 1 3 153 181 [.ref 154,.none,.ref 155,.ref 156,.ref 157] 390 391),
 (159,fO "_law_sign" (top 21) mC_ 158),
 (165,cO "_law_changed" "/claim/cut.py" 393 90 2 3 160 181 [.ref 161,.none,.ref 162,.ref 163,.ref 164] 402 403),
 (166,fO "_law_changed" (top 22) mC_ 165),
 (172,cO "_law_told" "/claim/cut.py" 405 105 1 3 167 181 [.ref 168,.none,.ref 169,.ref 170,.ref 171] 411 412),
 (173,fO "_law_told" (top 23) mC_ 172),
 (179,cO "_law_right" "/claim/cut.py" 414 113 1 3 174 181 [.ref 175,.none,.ref 176,.ref 177,.ref 178] 419 420),
 (180,fO "_law_right" (top 24) mC_ 179),
 (184,cO "law" "/claim/cut.py" 422 118 1 3 181 181 [.ref 182,.none,.none,.none,.ref 183] 425 426),
 (185,fO "law" (top 25) mC_ 184),
 (24,⟨(.type "type"),none,(.cls { name:="FloorError",bases:=[(.type "ValueError")],mro:=[(.ref 24),(.type "ValueError"),(.type "Exception"),(.type "BaseException"),(.type "object")],ns:=23,qualname:="FloorError",hasDict:=true,slotNames:=[],subclasses:=[(.ref 44),(.ref 63),(.ref 82),(.ref 94),(.ref 106)],abstract:=false }),#[some (.ref 15),none,some (.str "FloorError" 189),some (.str "FloorError" 197),some (.builtin "ValueError.__new__"),some (.bool true)]⟩),
 (23,⟨(.type "dict"),none,(.dict (kD P [("__module__",196,(.str "healfloor.errors" 187)),("__firstlineno__",200,(.int (2) 199)),("__static_attributes__",201,(.ref 22)),("__weakref__",203,(.ref 25)),("__doc__",204,.none)]) 3),#[]⟩),
 (44,⟨(.type "type"),none,(.cls { name:="NoName",bases:=[(.ref 24)],mro:=[(.ref 44),(.ref 24),(.type "ValueError"),(.type "Exception"),(.type "BaseException"),(.type "object")],ns:=43,qualname:="NoName",hasDict:=true,slotNames:=[],subclasses:=[],abstract:=false }),#[some (.ref 28),none,some (.str "NoName" 207),some (.str "NoName" 215),some (.builtin "ValueError.__new__"),some (.bool true)]⟩),
 (43,⟨(.type "dict"),none,(.dict (kD P [("__module__",214,(.str "healfloor.errors" 187)),("__firstlineno__",218,(.int (4) 217)),("__init__",226,(.ref 41)),("__static_attributes__",228,(.ref 42)),("__doc__",229,.none)]) 2),#[]⟩),
 (63,⟨(.type "type"),none,(.cls { name:="NoText",bases:=[(.ref 24)],mro:=[(.ref 63),(.ref 24),(.type "ValueError"),(.type "Exception"),(.type "BaseException"),(.type "object")],ns:=62,qualname:="NoText",hasDict:=true,slotNames:=[],subclasses:=[],abstract:=false }),#[some (.ref 47),none,some (.str "NoText" 232),some (.str "NoText" 240),some (.builtin "ValueError.__new__"),some (.bool true)]⟩),
 (62,⟨(.type "dict"),none,(.dict (kD P [("__module__",239,(.str "healfloor.errors" 187)),("__firstlineno__",243,(.int (8) 242)),("__init__",251,(.ref 60)),("__static_attributes__",253,(.ref 61)),("__doc__",254,.none)]) 2),#[]⟩),
 (82,⟨(.type "type"),none,(.cls { name:="TooMany",bases:=[(.ref 24)],mro:=[(.ref 82),(.ref 24),(.type "ValueError"),(.type "Exception"),(.type "BaseException"),(.type "object")],ns:=81,qualname:="TooMany",hasDict:=true,slotNames:=[],subclasses:=[],abstract:=false }),#[some (.ref 66),none,some (.str "TooMany" 257),some (.str "TooMany" 265),some (.builtin "ValueError.__new__"),some (.bool true)]⟩),
 (81,⟨(.type "dict"),none,(.dict (kD P [("__module__",264,(.str "healfloor.errors" 187)),("__firstlineno__",268,(.int (12) 267)),("__init__",276,(.ref 79)),("__static_attributes__",278,(.ref 80)),("__doc__",279,.none)]) 2),#[]⟩),
 (94,⟨(.type "type"),none,(.cls { name:="NotPaper",bases:=[(.ref 24)],mro:=[(.ref 94),(.ref 24),(.type "ValueError"),(.type "Exception"),(.type "BaseException"),(.type "object")],ns:=93,qualname:="NotPaper",hasDict:=true,slotNames:=[],subclasses:=[],abstract:=false }),#[some (.ref 85),none,some (.str "NotPaper" 282),some (.str "NotPaper" 290),some (.builtin "ValueError.__new__"),some (.bool true)]⟩),
 (93,⟨(.type "dict"),none,(.dict (kD P [("__module__",289,(.str "healfloor.errors" 187)),("__firstlineno__",293,(.int (16) 292)),("__static_attributes__",294,(.ref 92)),("__doc__",295,.none)]) 2),#[]⟩),
 (106,⟨(.type "type"),none,(.cls { name:="NoDeed",bases:=[(.ref 24)],mro:=[(.ref 106),(.ref 24),(.type "ValueError"),(.type "Exception"),(.type "BaseException"),(.type "object")],ns:=105,qualname:="NoDeed",hasDict:=true,slotNames:=[],subclasses:=[],abstract:=false }),#[some (.ref 97),none,some (.str "NoDeed" 298),some (.str "NoDeed" 306),some (.builtin "ValueError.__new__"),some (.bool true)]⟩),
 (105,⟨(.type "dict"),none,(.dict (kD P [("__module__",305,(.str "healfloor.errors" 187)),("__firstlineno__",309,(.int (18) 308)),("__static_attributes__",310,(.ref 104)),("__doc__",311,.none)]) 2),#[]⟩),
 (60,iO "NoText.__init__" (topc 3 0) mI_ 59),
 (59,⟨(.type "code"),none,(.fields #[(.str "__init__" 244),(.str "NoText.__init__" 245),(.str "/claim/cut.py" 246),(.int (10) 0),(.int (2) 0),(.int (0) 0),(.int (0) 0),(.int (3) 0),(.ref 54),(.bool true),(.int (181) 0),(.ref 55),.none,(.ref 56),(.ref 57),(.ref 58),(.int (249) 0),(.int (10) 0),(.str "/claim/cut.py" 250)]),#[]⟩)]
noncomputable def view:Program:={ PySem.Challenge.pw_healfloor_k44_island_texts_refused with main:={ PySem.Challenge.pw_healfloor_k44_island_texts_refused.main with body:=[1,2,3,4,5,6,8,10,11,13,14,15,17,18,19,20,21,22,23,24,25].map top } }
noncomputable abbrev hk:PySem.W.Hook:=PySem.W.kHook KF [3,112,113,117,118,122,123,127,128,132,133,139,140,146,147,151,152,158,159,165,166,172,173,179,180,184,185,24,23,44,43,63,62,82,81,94,93,106,105,60,59] (fun _=>by kernel_rfl)
theorem left:PySem.W.LeftO PySem.Challenge.pw_healfloor_k44_island_texts_refused view [] (fun s=>PySem.W.xlAt view [] s && PySem.W.recOk [] s) (PySem.W.Hook.obs hk) (PySem.W.Hook.val hk) 3694:=fun w=>by kernel_rfl
noncomputable abbrev CC (x:Str) (k:Nat) (ps:List Str) (F:DS.Fn):Prop:=∀{w:World}{mg:Str->Option Value}{base:Heap},Gd (KF w.params) mg->Cal PySem.Challenge.pw_healfloor_k44_island_texts_refused w (KF w.params) mg base x k ps (spOf (KF w.params) XE0 F)
noncomputable abbrev CE (x:Str) (k:Nat) (ps:List Str) (F:DS.Fn):Prop:=∀{w:World}{mg:Str->Option Value}{base:Heap},Gd (KF w.params) mg->CalX PySem.Challenge.pw_healfloor_k44_island_texts_refused w (KF w.params) mg base x k ps F
theorem zPb {w:World}{mg:Str->Option Value}{base:Heap}:IniX PySem.Challenge.pw_healfloor_k44_island_texts_refused w (KF w.params) mg base 63 "row":=by
 apply yAq 60 59 63 "NoText.__init__" (topc 3 0) mI_ "self" "row"
 all_goals (first|kernel_rfl!|(intro _ _ _ _ _ _ us hl;obtain⟨_,_,rfl⟩:=len2 hl;rfl))
set_option hygiene false in
local macro_rules | `(tactic| ac_rfl) => `(tactic| first | kernel_rfl | (intro _ _ _ _ _ _ us hl; first | (obtain ⟨_, rfl⟩ := len1 hl; rfl) | (obtain ⟨_, _, rfl⟩ := len2 hl; rfl) | (obtain ⟨_, _, _, rfl⟩ := len3 hl; rfl) | (obtain ⟨_, _, _, _, rfl⟩ := len4 hl; rfl) | (obtain ⟨_, _, _, _, _, rfl⟩ := len5 hl; rfl)) | (intro cdv A outer s H E hr; (first | refine zIe ?_ ?_ | refine zEv (zMi ?_) | refine zEv (zR1 ?_ ?_ ?_) | refine zEv ?_); repeat' (first
 | with_reducible (show DE _ _ _ _ _;first|apply zU8|(apply zUa G [106,44,94,82];kernel_rfl!)|(apply zYq;kernel_rfl!)|(apply zYp G "ValueError" zV0;kernel_rfl!)|(apply zYo G 24;kernel_rfl!)|apply zYk|apply zR7|apply yB8|apply zZ6|apply yBb|(apply zPx;(case' ho=>(first|apply zHv|apply zCc));(case' ho'=>(first|apply zHv|apply zCc)))|apply yB3|apply zZ7|apply zUc|apply zZ8|apply yAy|apply zZ5|apply zUu|apply zZ9|apply zZd|(apply yB4;first|apply zT1|apply zT8|apply zT5|apply zLa|apply zT2|apply zOr|apply zT4)|(apply zZc;first|apply zCc|apply zQj|apply zQi|apply zXe)|(apply zZ4;first|apply zJz)|(apply yB7;first|apply ix_D)|(apply yB2;first|apply sl_D|apply sl_S)|(apply yB0;first|apply zJs|apply zJp|apply zJo|apply zN2)|(apply yAz;first|apply zFv|apply zJq|apply zN1|apply zN5)|(apply zPl;exact zFd;apply zLj)|(apply zPl;exact s_split;apply zLk)|(apply zYn;exact s_pop;apply zTf)|(apply zPl;exact zNu;apply zJ7)|(apply zPl;exact zVx;apply zOv)|apply yB5)
 | with_reducible (show DA _ _ _ _ _;first|apply zUw|apply zZe)
 | with_reducible (show DT _ _ _ _ _;first|apply zYt|(apply zPm;(case' ho=>(first|apply zHv|apply zCc));(case' ho'=>(first|apply zHv|apply zCc)))|apply zYs|(apply zYu;first|apply zQi|apply zQj|apply zT6|apply zXc|apply zXd|apply zXa|apply zL9|apply zX8|apply zXb|apply zCc)|apply zYr|apply dt_w)
 | with_reducible (show DW _ _ _ _ _;first|apply yAx|apply zYi|apply zYj|apply zU6)
 | with_reducible (show DF _ _ _ _ _;first|apply zUb|apply zJj|apply zZ2|apply zZ1)
 | with_reducible (show DG _ _ _ _;first|apply zZ0|apply zU9)
 | with_reducible (show DGs _ _ _ _;first|apply zPu|apply zUn)
 | with_reducible (show DIf _ _ _ _ _;first|apply zUm|apply zUl)
 | with_reducible (show DI _ _ _ _ _ _;first|apply zYy|apply zYz|apply zMl)
 | with_reducible (show DS1 _ _ _ _ _;first|(apply zPk G)|(apply zYl G 63;kernel_rfl!)|apply zMi|apply zR1|apply zUh|(apply zU7;kernel_rfl!)|apply zUi|apply zMh|apply zPo|apply zPp|apply zYm|(apply zUg;first|apply zZv))
 | with_reducible (show DSs _ _ _ _ _;first|apply zIe|apply zEv|apply zUj)
 | with_reducible (show DO _ _ _ _ _;first|apply zYw|apply yB1)
 | with_reducible (show DPs _ _ _ _ _ _ _ _;first|apply zPq|apply zUk)
 | exact G.z _ (by kernel_rfl)
 | kernel_rfl
 | exact PassesOwn.never
 | exact zEh (by kernel_rfl)
 | exact hr.units
 | exact yAs hr
 | exact hr.units0
 | exact hr.mono (by decide)
 | exact zH1 G
 | exact zH2 G
 | exact zH6 G
 | exact zH5 G
 | exact zF2 G
 | exact zDh G
 | exact zG2 G
 | exact zH4 G
 | exact zF1 G
 | exact zDi G
 | exact zH3 G
 | exact zG1 G
 | with_reducible (show DX _ _ _ _;first|apply zYh|apply zYg)
 | exact zPb
 | exact G
 | exact .inl rfl
 | exact .inr rfl
 | exact .inr (.inl rfl)
 | exact .inr (.inr rfl)
 | decide
 | exact nomark _
 | with_unfolding_all rfl
 | intro _ _ _ _ _
 | intro _ _
 | exact⟨rfl,rfl⟩)))
theorem zH1:CC "is_rising" 1 ["cells"] DP.zAq:=fun G=>by apply zDa G 113 112 (top 8) mA_ ["cells"];all_goals ac_rfl
theorem zH2:CC "is_number" 1 ["text","figures"] DP.zB4:=fun G=>by apply zDa G 118 117 (top 10) mB_ n_0;all_goals ac_rfl
theorem zH6:CC "_law_deal" 1 ["_law_script","_law_base"] DP.zC0:=fun G=>by apply yBe G 133 132 (top 17) mC_ n_2;all_goals ac_rfl
theorem zH5:CC "_law_draw" 1 ["_law_deal_here","_law_many"] DP.zA3:=fun G=>by apply zDa G 140 139 (top 18) mC_ n_5;all_goals ac_rfl
theorem zF2:CC "_law_number" 1 ["_law_word"] DP.zAe:=fun G=>by apply zDa G 147 146 (top 19) mC_ n_6;all_goals ac_rfl
theorem zDh:CC "read_numbers" 2 n_7 DP.zAl:=fun G=>by apply zDa G 123 122 (top 11) mB_ n_1;all_goals ac_rfl
theorem zG2:CC "_law_reads" 2 ["_law_text"] DP.zB5:=fun G=>by apply zDa G 152 151 (top 20) mC_ n_3;all_goals ac_rfl
theorem zH4:CC "_law_sign" 2 ["_law_deal_here"] DP.zAr:=fun G=>by apply zDa G 159 158 (top 21) mC_ n_8;all_goals ac_rfl
theorem zF1:CE "read_island" 3 ["text"] DP.zA9:=fun G=>by apply yBd G 128 127 (top 15) mD_ ["text","cells"];all_goals ac_rfl
theorem zDi:CC "_law_changed" 3 ["_law_deal_here","_law_text"] DP.zAm:=fun G=>by apply zDa G 166 165 (top 22) mC_ n_9;all_goals ac_rfl
theorem zH3:CC "_law_told" 4 ["_law_text"] DP.zBz:=fun G=>by apply zDa G 173 172 (top 23) mC_ n_10;all_goals ac_rfl
theorem zG1:CC "_law_right" 5 ["_law_text"] DP.zAw:=fun G=>by apply zDa G 180 179 (top 24) mC_ ["_law_text","_law_due"];all_goals ac_rfl
theorem yBh:CC "law" 6 ["_law_script"] DP.zJg:=fun G=>by apply zDa G 185 184 (top 25) mC_ n_4;all_goals ac_rfl
theorem walk {l:PySem.W.OpenLaw}{q:Program}{loose:List Str}{XP:(Str->Option Value)->Heap->Prop}{YP:World->Heap->Prop}{d:DefRec}{K:Params->PySem.W.Frag}(hn:l.most=some 63) (hdf:d.params.defaults=[])
  (hY:∀(w:World) (h:Heap),YP w h->(K w.params).In h)
  (F:∀(w:World) (mg:Str->Option Value) (fa:Addr) (h:Heap),(K w.params).In h->h.Ns mainGlobals mg->mg d.name=some (.ref fa)->
   ∃fd:FuncData,(∀(s:Shared) (u:Value),BindsTo s fd ⟨[u],[]⟩ [("_law_script",u)])/\∀base:Heap,(K w.params).In base->base.Ns mainGlobals mg->FnOk l.prog w (K w.params) mg base CX0 6 fa fd ["_law_script"] (spOf (K w.params) XE0 DP.zJg)):
  PySem.W.WalkO q loose XP YP l.row.toRowW d [] (fun f vs=>PySem.call f vs):=
 L2.walk_of (n:=63) (k:=6) (x:="_law_script") (CX:=fun _=>CX0) (sp:=fun w=>spOf (K w.params) XE0 DP.zJg) hn (by decide) hdf ⟨rfl,by decide,by decide⟩ hY F (fun _ _ a ns hl _ hS=>zKg (DP.law_ok ns hl) hS) fun _ _ _ _ _ z=>z
noncomputable abbrev dl:DefRec:=⟨"law",zAx (top 25),zAa (top 25),zA1 (top 25),match top 25 with|.FunctionDef _ _ _ _ _ _ _ _ _ p=>p|_=>⟨0,0,0,0⟩⟩
theorem all_mk {w:World}{h:Heap}{mg:Str->Option Value}{fa:Addr}(X:(KF w.params).In h) (G:h.Ns mainGlobals mg) (hfa:mg "law"=some (.ref fa)):∃fd:FuncData,(∀(s:Shared) (v:Value),BindsTo s fd ⟨[v],[]⟩ [("_law_script",v)])/\∀base:Heap,(KF w.params).In base->base.Ns mainGlobals mg->FnOk PySem.Challenge.pw_healfloor_k44_island_texts_refused w (KF w.params) mg base CX0 6 fa fd ["_law_script"] (spOf (KF w.params) XE0 DP.zJg):=by
 have D:Gd (KF w.params) mg:=⟨fun x v e=>PySem.W.mg_of X G e,fun x e=>PySem.W.mg_none_of X G e⟩
 have F:=zI7 (K:=KF w.params) (f:=185) (cd:=184) (x:="law") (tq:=top 25) (pm:=mC_) (by kernel_rfl) (by kernel_rfl) (by kernel_rfl)
 have e:=hfa.symm.trans (D.a "law" (.ref 185) (by kernel_rfl))
 cases e
 refine⟨_,fun s v=>.of_eq rfl,fun base _ _=>fn_d F (zCz (N:=n_4) (by kernel_rfl)) rfl rfl (b:=DP.zV2) ?_⟩
 have G:=D
 ac_rfl
end Law
open PySem PySem.W PyProof.Rows
set_option maxRecDepth 100000 in
theorem PySem.Challenge.cw_healfloor_k44_island_texts_refused_holds : PySem.Challenge.rw_healfloor_k44_island_texts_refused.Holds := by
 refine PySem.W.holds_law (by decide +kernel) fun said=>PySem.W.holds_open (r:=PySem.W.OpenLaw.row PySem.Challenge.rw_healfloor_k44_island_texts_refused) (q:=Law.view) (loose:=[]) (Xt:=fun s=>xlAt Law.view [] s && recOk [] s) (XP:=XL Law.view []) (YP:=Hook.says Law.hk) (d:=Law.dl) (kwd:=[]) Law.left (Hook.of Law.hk) (Hook.keeps Law.hk) (fun s e=>xl_of s (Bool.and_eq_true_iff.mp e).1) XL.keeps (by kernel_rfl) (by kernel_rfl) (by kernel_rfl) (fun s e=>recFacts_of (Bool.and_eq_true_iff.mp e).2) (by kernel_rfl) said (by decide +kernel) ⟨by kernel_rfl,by kernel_rfl,by kernel_rfl,by kernel_rfl,by kernel_rfl,by decide +kernel⟩ ?hw ?hc
 case hw=>w_witness2
 case hc=>exact Law.walk (l:=PySem.Challenge.rw_healfloor_k44_island_texts_refused) (K:=Law.KF) (by kernel_rfl) (by kernel_rfl) (fun w h Y=>PySem.W.kIn_of Y) fun w mg fa h KX G hmg=>Law.all_mk KX G hmg
#print axioms PySem.Challenge.cw_healfloor_k44_island_texts_refused_holds
