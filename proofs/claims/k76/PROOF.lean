import PyProof.Rows.All
import Wide.All
import OpenK.AllK
import Wide.FinOn
import Lean
import PyProof.EqAt
import PyProof.EqKinds
import PyProof.TupleCall
import PyProof.NeKinds
import PyProof.ZipIter
import KE.KSortTup
import PyProof.TupleKey
import PyProof.SetKind
import PyProof.IsRules
import PyProof.Rows.SetFrom
import PyProof.Rows.SortShell
import KE.KDictList
import KE.KDictSum
import PyProof.MinMaxWalk
import PyProof.Rows.CallKwBuiltin
import PyProof.TupleIter
import KE.KIntText
import PyProof.Rows.StrWeight2
import PyProof.Rows.StrNews
import PyProof.StrWalks
import PyProof.FString5
import PyProof.SliceStr2
import PyProof.FitsReplace
import PyProof.Rows.StrSplitCount
import PySem.Str
import PyProof.Rows.SortRuns
import PyProof.SetRoads
import PyProof.Draws
import PyProof.EnumStmt
import PyProof.Rows.EnumRows
import KE.KSortKey
import PyProof.ReprRoads
import PyProof.ListMulRoad
import PyProof.AttrMissHeap
import KE.KDictOf
import PyProof.SumWalk
import PySem.Challenge.RW_healfloor_k76_healing_papers_looked_at
set_option bootstrap.genMatcherCode false
set_option genSizeOf false
set_option compiler.extract_closed false
local macro_rules|`(tactic|nofun)=>`(tactic|first|assumption|lia)
local macro_rules|`(tactic|trivial)=>`(tactic|first|exact Or.inl rfl|exact Or.inr rfl)
noncomputable abbrev xa:=@PySem.wpAny_bind
noncomputable abbrev xf:=@if_pos
noncomputable abbrev xg:=@if_neg
noncomputable abbrev xh:=@PySem.wpAny_pure
noncomputable abbrev xi:=@Nat.le_refl
noncomputable abbrev xj:=@if_true
noncomputable abbrev xk:=@Nat.le_trans
noncomputable abbrev xm:=@List.mem_cons
noncomputable abbrev xn:=@PySem.Heap.get?_push_of_some
noncomputable abbrev xo:=@PySem.Heap.lt_size
noncomputable abbrev xp:=@List.length_map
noncomputable abbrev xq:=@List.mem_map
noncomputable abbrev xr:=@Nat.ne_of_lt
noncomputable abbrev xt:=@List.map_cons
noncomputable abbrev xu:=@decide_eq_false
noncomputable abbrev xv:=@decide_eq_true
noncomputable abbrev xw:=@Ne.symm
noncomputable abbrev xx:=@List.size_toArray
noncomputable abbrev xy:=@List.length_append
noncomputable abbrev xA:=@PySem.Heap.get?_push_size
noncomputable abbrev xB:=@PyProof.Rows.wpS_bind
noncomputable abbrev xC:=@Nat.lt_of_lt_of_le
noncomputable abbrev xD:=@List.getElem?_eq_getElem
noncomputable abbrev xE:=@List.length_cons
noncomputable abbrev xF:=@List.mem_singleton
noncomputable abbrev xG:=@List.mem_append
noncomputable abbrev xH:=@List.getElem?_eq_some_iff
noncomputable abbrev xI:=@decide_eq_decide
noncomputable abbrev xJ:=@Option.some.inj
noncomputable abbrev xK:=@PySem.wpAny_holding
noncomputable abbrev xM:=@Bool.and_eq_true
noncomputable abbrev xN:=@PyProof.Rows.wpS_pure
noncomputable abbrev xO:=@List.getElem?_set_ne
noncomputable abbrev xP:=@List.map_map
noncomputable abbrev xQ:=@List.mem_cons_self
noncomputable abbrev xR:=@Nat.zero_le
noncomputable abbrev xS:=@PySem.wpAny_field
noncomputable abbrev xT:=@PySem.W.mg_of
noncomputable abbrev xU:=@List.length_take
noncomputable abbrev xV:=@if_false
noncomputable abbrev xW:=@Classical.byContradiction
noncomputable abbrev xX:=@List.map_append
noncomputable abbrev xY:=@PySem.boot_len
noncomputable abbrev xZ:=@PySem.W.mg_none_of
noncomputable abbrev vc:=@List.mem_append_right
noncomputable abbrev vd:=@List.not_mem_nil
noncomputable abbrev ve:=@or_false
noncomputable abbrev vf:=@List.map_nil
noncomputable abbrev vg:=@List.length_drop
noncomputable abbrev vh:=@PySem.wpAny_call_entry
noncomputable abbrev vk:=@PySem.wpAny_newObj_type
noncomputable abbrev vm:=@List.getElem?_map
noncomputable abbrev vn:=@List.lookup_cons
noncomputable abbrev vo:=@Bool.false_eq_true
noncomputable abbrev vp:=@List.length_set
noncomputable abbrev vq:=@List.mem_range
noncomputable abbrev vt:=@List.mem_cons_of_mem
noncomputable abbrev vv:=@List.getElem?_append_left
noncomputable abbrev vw:=@PySem.Heap.size_push
noncomputable abbrev vx:=@Array.getElem?_eq_getElem
noncomputable abbrev vy:=@List.sum_cons
noncomputable abbrev vz:=@PySem.PassesOwn.never
noncomputable abbrev vA:=@Nat.lt_irrefl
noncomputable abbrev vB:=@PySem.wpAny_mono
noncomputable abbrev vC:=@Nat.lt_or_ge
noncomputable abbrev vD:=@PySem.wpAny_seqItems
noncomputable abbrev vE:=@List.mem_filter
noncomputable abbrev vF:=@List.getElem?_set_self
noncomputable abbrev vG:=@PySem.wpAny_rule
noncomputable abbrev vH:=@Nat.lt_trans
noncomputable abbrev vI:=@List.length_singleton
noncomputable abbrev vJ:=@List.getElem_mem
noncomputable abbrev vK:=@Nat.zero_add
noncomputable abbrev vL:=@Option.map_some
noncomputable abbrev vM:=@Nat.le_of_lt
noncomputable abbrev vN:=@List.mem_append_left
noncomputable abbrev vO:=@PySem.sizeLine_eq
noncomputable abbrev vP:=@List.nodup_cons
noncomputable abbrev vQ:=@List.getElem?_append_right
noncomputable abbrev vR:=@PySem.wpAny_callSpecial?_slot
noncomputable abbrev vS:=@List.all_eq_true
noncomputable abbrev vT:=@List.getElem?_eq_none
noncomputable abbrev vU:=@List.getD_eq_getElem?_getD
noncomputable abbrev vV:=@Array.getD_eq_getD_getElem?
noncomputable abbrev vW:=@PySem.wpAny_truthy_bool
noncomputable abbrev vX:=@PyProof.Rows.slot_tuple_getitem
noncomputable abbrev vY:=@PySem.wpAny_typeOf
noncomputable abbrev vZ:=@Array.getElem?_eq_some_iff
noncomputable abbrev v3:=@List.append_nil
noncomputable abbrev v5:=@List.mem_of_getElem?
noncomputable abbrev v7:=@List.length_nil
noncomputable abbrev v8:=@List.mem_iff_getElem
noncomputable abbrev v9:=@PySem.wpAny_pyIter_list
noncomputable abbrev ua:=@List.pairwise_cons
noncomputable abbrev ub:=@Nat.le_add_right
noncomputable abbrev uc:=@Nat.mul_le_mul
noncomputable abbrev ud:=@List.exists_cons_of_ne_nil
noncomputable abbrev ue:=@PyProof.Rows.boot_tuple
noncomputable abbrev uf:=@Nat.ne_of_gt
noncomputable abbrev ug:=@List.length_replicate
noncomputable abbrev uh:=@List.replicate_succ
noncomputable abbrev ui:=@PySem.wpAny_specialOf
noncomputable abbrev uj:=@PySem.wpAny_isInstance
noncomputable abbrev uk:=@List.all_cons
noncomputable abbrev uo:=@Int.emod_lt_of_pos
noncomputable abbrev uq:=@Int.emod_nonneg
noncomputable abbrev ur:=@List.nil_append
noncomputable abbrev uu:=@PySem.codeAny_builtin
noncomputable abbrev uv:=@PySem.wpAny_setState_of
noncomputable abbrev uw:=@of_decide_eq_true
noncomputable abbrev uy:=@List.filter_cons_of_pos
noncomputable abbrev uz:=@PySem.F.called_set
noncomputable abbrev uA:=@List.filterMap_cons
noncomputable abbrev uB:=@Array.length_toList
noncomputable abbrev uC:=@PySem.wpAny_passesOwn
noncomputable abbrev uD:=@PyProof.Rows.callWith_type1
noncomputable abbrev uE:=@PySem.wpAny_Call_Name_kw
noncomputable abbrev uF:=@List.getElem?_take_of_lt
noncomputable abbrev uG:=@Nat.add_le_add_left
noncomputable abbrev uH:=@Nat.lt_succ_of_lt
noncomputable abbrev uI:=@List.getElem?_cons_zero
noncomputable abbrev uJ:=@List.zip_cons_cons
noncomputable abbrev uK:=@PySem.Heap.SameBut.update
noncomputable abbrev uL:=@List.eq_nil_of_length_eq_zero
noncomputable abbrev uM:=@PySem.wpAny_forIn_list
noncomputable abbrev uN:=@Bool.not_true
noncomputable abbrev uO:=@List.sum_append
noncomputable abbrev uP:=@List.filter_cons
noncomputable abbrev uQ:=@Int.natAbs_mul
noncomputable abbrev uR:=@List.length_filter_le
noncomputable abbrev uS:=@PySem.F.plainAttrs_list
noncomputable abbrev uT:=@List.mem_filterMap
noncomputable abbrev uU:=@PySem.Calls.spliced_nil
noncomputable abbrev uV:=@PySem.Calls.spliced_cons
noncomputable abbrev uW:=@List.of_mem_zip
noncomputable abbrev uX:=@PySem.mem_of_lookup
noncomputable abbrev uY:=@List.find?_cons
noncomputable abbrev uZ:=@Array.getElem?_toList
noncomputable abbrev u3:=@PySem.plainId_quiet
noncomputable abbrev u4:=@PySem.Heap.get?_update_self
noncomputable abbrev u5:=@Bool.eq_iff_iff
noncomputable abbrev u6:=@PySem.wpAny_attempt
noncomputable abbrev u7:=@PySem.Obj.data_mapFields
noncomputable abbrev u9:=@PySem.wpAny_setField_rec
noncomputable abbrev ya:=@Option.some.injEq
noncomputable abbrev yb:=@List.length_zip
noncomputable abbrev yc:=@List.filter_cons_of_neg
noncomputable abbrev yd:=@decide_eq_true_iff
noncomputable abbrev ye:=@List.mem_of_mem_drop
noncomputable abbrev yf:=@PyProof.Rows.boot_sum
noncomputable abbrev yg:=@Bool.false_ne_true
noncomputable abbrev yh:=@PySem.Heap.get?_update_other
noncomputable abbrev yi:=@List.forIn_cons
noncomputable abbrev yj:=@Bool.not_eq_true
noncomputable abbrev yk:=@PySem.typeLookup_type
noncomputable abbrev ym:=@PySem.builtinLookup_eq_fast
noncomputable abbrev yn:=@List.any_eq_true
noncomputable abbrev yo:=@List.perm_middle
noncomputable abbrev yp:=@List.length_range
noncomputable abbrev yq:=@List.cons_append
noncomputable abbrev yr:=@PySem.Around.under_plainId
noncomputable abbrev yt:=@PySem.wpAny_askSetting
noncomputable abbrev yu:=@Nat.pow_le_pow_right
noncomputable abbrev yv:=@Bool.eq_false_iff
noncomputable abbrev yw:=@PySem.F.slot_tuple_hash
noncomputable abbrev yx:=@PySem.wpAny_tupleItemsOf
noncomputable abbrev yy:=@List.take_length
noncomputable abbrev yz:=@PySem.W.kia_one
noncomputable abbrev yA:=@Nat.min_eq_left
noncomputable abbrev yB:=@PySem.F.slot_list_append
noncomputable abbrev yC:=@PySem.F.type_list_append
noncomputable abbrev yD:=@Option.map_eq_some_iff
noncomputable abbrev yE:=@List.mem_iff_getElem?
noncomputable abbrev yF:=@List.getElem?_zip_eq_some
noncomputable abbrev yG:=@List.length_reverse
noncomputable abbrev yH:=@List.take_of_length_le
noncomputable abbrev yI:=@PySem.F.slot_tuple_iterator_next
noncomputable abbrev yJ:=@List.mem_of_mem_take
noncomputable abbrev yK:=@PyProof.Rows.F.plain_set_update_loop
noncomputable abbrev yL:=@List.getElem?_cons_succ
noncomputable abbrev yM:=@List.dropLast_concat_getLast
noncomputable abbrev yN:=@PyProof.Rows.boot_any
noncomputable abbrev yO:=@PyProof.Rows.boot_all
set_option linter.all false
set_option maxRecDepth 100000
set_option Elab.async false
set_option maxHeartbeats 8000000
namespace L2
open PySem PySem.Spec PyProof.Rows
noncomputable abbrev Key:=Sum Int Str
noncomputable def zN3:Key->Value->Bool
 | .inl k,v=>Value.isInt k v
 | .inr x,v=>Value.isStrOf x v
noncomputable def keyH (w:World):Key->Int
 | .inl k=>hashInt k
 | .inr x=>hashStr w x
theorem zBd:∀{k:Key}{v:Value},zN3 k v=true->(∃i t,k=Sum.inl i/\v=Value.int i t)\/(∃x t,k=Sum.inr x/\v=Value.str x t)
 | .inl i,v,h=>by
  obtain⟨t,e⟩:=Value.isInt_shape (k:=i) (v:=v) h
  exact .inl ⟨i,t,rfl,e⟩
 | .inr x,v,h=>by
  obtain⟨t,e⟩:=Value.isStrOf_shape (x:=x) (v:=v) h
  exact .inr ⟨x,t,rfl,e⟩
theorem zPi (i:Int) (t:Tok):zN3 (.inl i) (.int i t)=true:=by simp[zN3,Value.isInt]
theorem zPh (x:Str) (t:Tok):zN3 (.inr x) (.str x t)=true:=by simp[zN3,Value.isStrOf]
theorem zZf (a b:Int):decide ((Sum.inl a:Key)=Sum.inl b)=(a == b):=by
 by_cases e:a=b
 ·subst e;simp
 ·have h:¬ (Sum.inl a:Key)=Sum.inl b:=fun q=>e (Sum.inl.inj q)
  rw[xu h]
  exact(beq_eq_false_iff_ne.mpr e).symm
theorem zZc (a b:Str):decide ((Sum.inr a:Key)=Sum.inr b)=decide (a=b):=by
 by_cases e:a=b
 ·subst e;simp
 ·have h:¬ (Sum.inr a:Key)=Sum.inr b:=fun q=>e (Sum.inr.inj q)
  rw[xu h,xu e]
theorem zZe (a:Int) (b:Str):decide ((Sum.inl a:Key)=Sum.inr b)=false:=xu (fun q=>nomatch q)
theorem zZd (a:Str) (b:Int):decide ((Sum.inr a:Key)=Sum.inl b)=false:=xu (fun q=>nomatch q)
noncomputable def zBj (prog:Program) (w:World):PySem.KeyKind prog w Key where
 is:=zN3
 hash:=keyH w
 inj:=fun v a b ha hb=>by
  rcases zBd ha with⟨i,t,rfl,rfl⟩|⟨x,t,rfl,rfl⟩
  ·rcases zBd hb with⟨j,u,rfl,e⟩|⟨y,u,rfl,e⟩
   ·injection e with e1 _;rw[e1]
   ·exact nomatch e
  ·rcases zBd hb with⟨j,u,rfl,e⟩|⟨y,u,rfl,e⟩
   ·exact nomatch e
   ·injection e with e1 _;rw[e1]
 byValue:=fun k v h=>by
  rcases zBd h with⟨i,t,rfl,rfl⟩|⟨x,t,rfl,rfl⟩ <;> rfl
 pyHash:=fun hv h=>by
  rcases zBd hv with⟨i,t,rfl,rfl⟩|⟨x,t,rfl,rfl⟩
  ·exact wpAny_pyHash_int h
  ·exact wpAny_pyHash_str h
 eqBool:=fun hu hv h=>by
  rcases zBd hu with⟨i,t,rfl,rfl⟩|⟨x,t,rfl,rfl⟩
  ·rcases zBd hv with⟨j,u,rfl,rfl⟩|⟨y,u,rfl,rfl⟩
   ·rw[zZf]at h;exact wpAny_eqBool_int h
   ·rw[zZe]at h;exact SeqAt.EqAt.int_str i t y u _ _ _ _ h
  ·rcases zBd hv with⟨j,u,rfl,rfl⟩|⟨y,u,rfl,rfl⟩
   ·rw[zZd]at h;exact SeqAt.EqAt.str_int x t j u _ _ _ _ h
   ·rw[zZc]at h;exact wpAny_eqBool_str h
 «strs»:=fun k x t v h=>by
  rcases zBd h with⟨i,u,rfl,e⟩|⟨y,u,rfl,e⟩
  ·exact nomatch e
  ·injection e with e1 _
   subst e1
   cases v <;> rfl
theorem zKh (prog:Program) (w:World) (i:Int) (t:Tok):(zBj prog w).is (.inl i) (.int i t)=true:=zPi i t
theorem zKg (prog:Program) (w:World) (x:Str) (t:Tok):(zBj prog w).is (.inr x) (.str x t)=true:=zPh x t
end L2
namespace L2
open PySem PySem.Spec PyProof.Rows
inductive V where
 | non|bl (b:Bool)|int (i:Int)|str (x:Str)|byt (b:Array UInt8)|flt (b:UInt64)|ref (a:Addr)|ty (n:String)
 deriving DecidableEq
noncomputable def RelV:V->Value->Prop
 | .non,u=>u=Value.none
 | .bl b,u=>u=Value.bool b
 | .int i,u=>∃t,u=Value.int i t
 | .str x,u=>∃t,u=Value.str x t
 | .byt b,u=>∃t,u=Value.bytes b t
 | .flt b,u=>∃t,u=Value.float b t
 | .ref a,u=>u=Value.ref a
 | .ty n,u=>u=Value.type n
noncomputable abbrev Vals:List V->List Value->Prop:=Paired RelV
theorem Vals.length {xs:List V}{us:List Value}(r:Vals xs us):xs.length=us.length:=Paired.length r
theorem Vals.get:∀{xs:List V}{us:List Value}{i:Nat}{x:V},Vals xs us->xs[i]?=some x->∃u,us[i]?=some u/\RelV x u
 | _,_,_,_,.nil,e=>by simp at e
 | _,_,0,_,.cons r _,e=>by simp at e;subst e;exact⟨_,rfl,r⟩
 | _,_,i+1,x,.cons _ t,e=>by
  obtain⟨u,h1,h2⟩:=Vals.get (i:=i) (x:=x) t (by simpa using e)
  exact⟨u,by simpa using h1,h2⟩
theorem Vals.append:∀{xs ys:List V}{us ws:List Value},Vals xs us->Vals ys ws->Vals (xs++ys) (us++ws)
 | _,_,_,_,.nil,s=>s
 | _,_,_,_,.cons r t,s=>.cons r (Vals.append t s)
theorem Vals.take:∀{xs:List V}{us:List Value}(n:Nat),Vals xs us->Vals (xs.take n) (us.take n)
 | _,_,0,_=>.nil
 | _,_,_+1,.nil=>.nil
 | _,_,n+1,.cons r t=>.cons r (Vals.take n t)
theorem Vals.drop:∀{xs:List V}{us:List Value}(n:Nat),Vals xs us->Vals (xs.drop n) (us.drop n)
 | _,_,0,r=>r
 | _,_,_+1,.nil=>.nil
 | _,_,n+1,.cons _ t=>Vals.drop n t
noncomputable def RelO:Option V->Option Value->Prop
 | some v,some u=>RelV v u
 | none,none=>True
 | _,_=>False
noncomputable def KV {κ:Type}:List (κ × V)->List (κ × Value)->Prop:=Paired fun(p:κ × V) (q:κ × Value)=>p.1=q.1/\RelV p.2 q.2
noncomputable def kV:Key->V
 | .inl i=>.int i
 | .inr x=>.str x
inductive HO where
 /-- a list -/
 | lst (xs:List V)
 /-- a tuple (never changes) -/
 | tup (xs:List V)
 /-- a dict whose keys are ints and texts;one whose keys are tuples of ints and texts (the empty one is both) -/
 | dK (kvs:List (Key × V))|dT (kvs:List (List Key × V))
 /-- a set of ints: its members,its size -/
 | set (S:Int->Bool) (n:Nat)
 /-- an instance of the class at C,its dict at dx,its attributes -/
 | ins (C dx:Addr) (fs:List (Str × V))
 /-- the dict of the instance at x -/
 | own (x:Addr)
 /-- the dict of an exception -/
 | xd (fs:List (Str × V))
 /-- a bound method,f of x -/
 | met (f x:Addr)
 /-- a range object lo,lo+1,.. below hi -/
 | rng (lo hi:Int)
 /-- a thing that is known to the object (the script;a dict while a loop walks it): read,never written while it is so -/
 | frz (o:Obj) (u:HO)
 /-- a code object's table -/
 | tbl (ps:Array Value)
 /-- any other thing,by what is true of its one object (a def of one's own: SetO a S n:=HO.ext fun h=>..) -/
 | ext (φ:Heap->Prop)
noncomputable abbrev Hp:=Addr->Option HO
noncomputable def upd (H:Hp) (a:Addr) (o:HO):Hp:=fun b=>if b=a then some o else H b
theorem zB1 {H:Hp}{a:Addr}{o:HO}:upd H a o a=some o:=by unfold upd;rw[xf rfl]
theorem zAq {H:Hp}{a b:Addr}{o:HO}(h:b≠a):upd H a o b=H b:=by unfold upd;rw[xg h]
theorem zAm {H:Hp}{a b:Addr}{o:HO}(h:H a=some o) (h':H b=none):a≠b:=by
 intro e;subst e;rw[h]at h';cases h'
section
variable (P:Program) (w:World)
noncomputable def ObjOk (H:Hp) (h:Heap) (a:Addr):HO->Prop
 | .lst xs=>xs.length<=sizeLine/\∃(its:List Value) (n:Nat),Vals xs its/\h.get? a=some { cls:=.type "list",data:=.seq its.toArray n }
 | .tup xs=>xs.length<=sizeLine/\∃its:List Value,Vals xs its/\IsTup h a its.toArray
 | .dK kvs=>kvs.length<=sizeLine/\(a == sysModules)=false/\∃vs,KV kvs vs/\h.DictOf (zBj P w) a vs
 | .dT kvs=>kvs.length<=sizeLine/\(a == sysModules)=false/\∃xs:List (List Key × Addr × Value),
   Paired (fun(p:List Key × V) (q:List Key × Addr × Value)=>p.1=q.1/\H q.2.1=some (.tup (p.1.map kV))/\RelV p.2 q.2.2) kvs xs /\
   ∃o es ep,h.get? a=some o/\o.ExactDict/\o.data=.dict es ep/\es.toList=xs.map (entryOfKey (tupleKind (zBj P w)))/\(xs.map (·.1)).Nodup
 | .set S n=>h.SetOf (intKind P w) a S n
 | .ins C dx fs=>H dx=some (.own a)/\fs.length<=1000/\dx≠a/\h.get? a=some (PySem.W.instObj C dx) /\
   ∃mA,h.Ns1 dx mA/\(∀f,RelO (fs.lookup f) (mA f))/\PySem.Within mA (fs.map (·.1))
 | .own _=>∃o,h.get? a=some o
 | .xd fs=>∃mA,h.Ns1 a mA/\∀f,RelO (fs.lookup f) (mA f)
 | .rng lo hi=>∃t u v,h.get? a=some { cls:=.type "range",data:=.fields #[.int lo t,.int hi u,.int 1 v] }
 | .frz o u=>h.get? a=some o/\ObjOk H h a u
 | .tbl ps=>h.get? a=some { cls:=.none,data:=.fields ps }
 | .met f x=>h.get? a=some (PySem.W.methodObj (.ref f) (.ref x))
 | .ext φ=>φ h/\(∃o,h.get? a=some o)/\∀h1 h2:Heap,φ h1->(∀o,h1.get? a=some o->h2.get? a=some o)->φ h2
noncomputable def HOk (H:Hp) (h:Heap):Prop:=∀a o,H a=some o->ObjOk P w H h a o
end
section
variable {P:Program}{w:World}{H H':Hp}{h h':Heap}{a:Addr}{o:HO}
theorem ObjOk.lt (x:ObjOk P w H h a o):a<h.objs.size:=by
 cases o with
 | lst xs=>obtain⟨_,_,_,_,e⟩:=x;exact xo e
 | tup xs=>obtain⟨_,_,_,p⟩:=x;exact p.lt
 | dK kvs=>obtain⟨_,_,_,_,o,_,_,e,_⟩:=x;exact xo e
 | dT kvs=>obtain⟨_,_,_,_,o,_,_,e,_⟩:=x;exact xo e
 | set S n=>obtain⟨o,_,_,_,e,_⟩:=x;exact xo e
 | ins C dx fs=>obtain⟨_,_,_,e,_⟩:=x;exact xo e
 | own y=>obtain⟨_,e⟩:=x;exact xo e
 | xd fs=>obtain⟨_,⟨_,_,_,e,_⟩,_⟩:=x;exact xo e
 | rng lo hi=>obtain⟨_,_,_,e⟩:=x;exact xo e
 | frz ob u=>obtain⟨e,_⟩:=x;exact xo e
 | tbl ps=>exact xo (show h.get? a=some _ from x)
 | met f y=>exact xo (show h.get? a=some _ from x)
 | ext φ=>obtain⟨_,⟨_,e⟩,_⟩:=x;exact xo e
theorem Paired.mapP {α β:Type}{F G:α->β->Prop}:∀{l₁:List α}{l₂:List β},Paired F l₁ l₂->(∀a b,F a b->G a b)->Paired G l₁ l₂
 | _,_,.nil,_=>.nil
 | _,_,.cons r t,f=>.cons (f _ _ r) (Paired.mapP t f)
theorem ObjOk.stay (x:ObjOk P w H h a o) (k:∀b u,(b=a\/H b=some (.own a))->h.get? b=some u->h'.get? b=some u)
  (ho:∀b,H b=some (.own a)->H' b=some (.own a)) (ht:∀b xs,H b=some (.tup xs)->H' b=some (.tup xs)):ObjOk P w H' h' a o:=by
 induction o with
 | lst xs=>obtain⟨z,its,n,r,e⟩:=x;exact⟨z,its,n,r,k _ _ (.inl rfl) e⟩
 | tup xs=>obtain⟨z,its,r,ob,e,c⟩:=x;exact⟨z,its,r,ob,k _ _ (.inl rfl) e,c⟩
 | dK kvs=>obtain⟨z,y,vs,r,ob,es,ep,e,c⟩:=x;exact⟨z,y,vs,r,ob,es,ep,k _ _ (.inl rfl) e,c⟩
 | dT kvs=>
  obtain⟨z,y,xs,r,ob,es,ep,e,c⟩:=x
  exact⟨z,y,xs,Paired.mapP r fun p q z=>⟨z.1,ht _ _ z.2.1,z.2.2⟩,ob,es,ep,k _ _ (.inl rfl) e,c⟩
 | set S n=>obtain⟨ob,es,ep,t,e,c⟩:=x;exact⟨ob,es,ep,t,k _ _ (.inl rfl) e,c⟩
 | ins C dx fs=>
  obtain⟨d,z,ne,e,mA,⟨od,es,ep,e2,c⟩,r⟩:=x
  exact⟨ho _ d,z,ne,k _ _ (.inl rfl) e,mA,⟨od,es,ep,k _ _ (.inr d) e2,c⟩,r⟩
 | own y=>obtain⟨ob,e⟩:=x;exact⟨ob,k _ _ (.inl rfl) e⟩
 | xd fs=>obtain⟨mA,⟨od,es,ep,e,c⟩,r⟩:=x;exact⟨mA,⟨od,es,ep,k _ _ (.inl rfl) e,c⟩,r⟩
 | rng lo hi=>obtain⟨t,u,v,e⟩:=x;exact⟨t,u,v,k _ _ (.inl rfl) e⟩
 | frz ob u ih=>obtain⟨e,q⟩:=x;exact⟨k _ _ (.inl rfl) e,ih q⟩
 | tbl ps=>
  have e:h.get? a=some { cls:=.none,data:=.fields ps }:=x
  show h'.get? a=some { cls:=.none,data:=.fields ps }
  exact k a _ (.inl rfl) e
 | met f y=>
  have e:h.get? a=some (PySem.W.methodObj (.ref f) (.ref y)):=x
  show h'.get? a=some (PySem.W.methodObj (.ref f) (.ref y))
  exact k a _ (.inl rfl) e
 | ext φ=>obtain⟨p,⟨o,e⟩,st⟩:=x;exact⟨st _ _ p fun o q=>k _ _ (.inl rfl) q,⟨o,k _ _ (.inl rfl) e⟩,st⟩
theorem HOk.lt (x:HOk P w H h) (e:H a=some o):a<h.objs.size:=(x a o e).lt
theorem HOk.fresh (x:HOk P w H h) (e:h.objs.size<=a):H a=none:=by
 cases q:H a with
 | none=>rfl
 | some u=>exact absurd (xC (x.lt q) e) (vA _)
theorem HOk.kept (x:HOk P w H h) (k:∀b u,h.get? b=some u->h'.get? b=some u):HOk P w H h':=fun a o e=>
 (x a o e).stay (fun b u _ q=>k b u q) (fun _ q=>q) fun _ _ q=>q
theorem HOk.laid (x:HOk P w H h) (k:∀b u,h.get? b=some u->h'.get? b=some u) (hp:h.objs.size<=a) (new:ObjOk P w (upd H a o) h' a o):HOk P w (upd H a o) h':=fun b u e=>by
 have hn:=x.fresh hp
 by_cases hb:b=a
 ·subst hb;rw[zB1]at e;cases e;exact new
 ·rw[zAq hb]at e
  exact(x b u e).stay (fun c v _ q=>k c v q) (fun c q=>by rw[zAq (zAm q hn)];exact q) fun c xs q=>by rw[zAq (zAm q hn)];exact q
end
noncomputable def Rd (H:Hp) (a:Addr) (u:HO):Prop:=H a=some u\/∃o,H a=some (.frz o u)
theorem Rd.ok {P:Program}{w:World}{H:Hp}{h:Heap}{a:Addr}{u:HO}(r:Rd H a u) (x:HOk P w H h):ObjOk P w H h a u:=by
 rcases r with r|⟨o,r⟩
 ·exact x a u r
 ·obtain⟨_,q⟩:=x a _ r
  exact q
noncomputable def Mut:Option HO->Prop
 | some (.lst _)=>True
 | some (.dK _)=>True
 | some (.dT _)=>True
 | some (.set _ _)=>True
 | some (.ins _ _ _)=>True
 | some (.ext _)=>True
 | _=>False
section
variable {P:Program}{w:World}{H:Hp}{h h':Heap}{x e:Addr}{o':HO}
theorem HOk.write (ok:HOk P w H h) (mu:Mut (H x)) (he:e=x\/H e=some (.own x)) (k:∀b u,b≠e->h.get? b=some u->h'.get? b=some u) (heo:∃u,h'.get? e=some u)
  (new:ObjOk P w (upd H x o') h' x o'):HOk P w (upd H x o') h':=fun b u q=>by
 have nown:∀c y,H c=some (.own y)->c≠x:=fun c y r z=>by subst z;rw[r]at mu;exact mu
 have ntup:∀c xs,H c=some (.tup xs)->c≠x:=fun c xs r z=>by subst z;rw[r]at mu;exact mu
 by_cases hb:b=x
 ·subst hb;rw[zB1]at q;cases q;exact new
 ·rw[zAq hb]at q
  by_cases hbe:b=e
  ·have q':H b=some (.own x):=by
    rcases he with z|z
    ·exact absurd (hbe.trans z) hb
    ·rw[hbe];exact z
   rw[q]at q';cases q'
   obtain⟨v,hv⟩:=heo
   exact⟨v,by rw[hbe];exact hv⟩
  ·refine(ok b u q).stay (fun c v hc r=>k c v ?_ r) (fun c r=>by rw[zAq (nown c b r)];exact r) fun c xs r=>by rw[zAq (ntup c xs r)];exact r
   rcases hc with rfl|hc
   ·exact hbe
   ·rintro rfl
    rcases he with z|z
    ·exact nown c b hc z
    ·rw[hc]at z;cases z;exact hb rfl
end
structure Un (fs ex:List Addr) (H H':Hp) (h h':Heap):Prop where
 keep:∀b o,h.get? b=some o->H b=none->b ∉ fs->b ∉ ex->h'.get? b=some o
 slot:∀b o,h.get? b=some o->H b=none->b∈fs->b ∉ ex->∃sl,h'.get? b=some { o with slots:=sl }
 free:∀b o,h.get? b=some o->H b=none->b ∉ ex->H' b=none
 there:∀b o,h.get? b=some o->b ∉ ex->∃o',h'.get? b=some o'
 tups:∀b xs,H b=some (.tup xs)->H' b=some (.tup xs)
 frzs:∀b o u,H b=some (.frz o u)->H' b=some (.frz o u)
 tbls:∀b ps,H b=some (.tbl ps)->∃more,H' b=some (.tbl (ps++more))
section
variable {fs fs' ex ex':List Addr}{H H1 H2:Hp}{h h1 h2 h':Heap}{a x e:Addr}{o:HO}
theorem Un.any (u:Un fs ex H H1 h h1) {b:Addr}{ob:Obj}(q:h.get? b=some ob) (n:H b=none) (hx:b ∉ ex):∃sl,h1.get? b=some { ob with slots:=sl }:=by
 by_cases hb:b∈fs
 ·exact u.slot b ob q n hb hx
 ·exact⟨ob.slots,u.keep b ob q n hb hx⟩
theorem Un.kept (k:∀b u,h.get? b=some u->h'.get? b=some u):Un fs ex H H h h':=
 ⟨fun b ob q _ _ _=>k b ob q,fun b ob q _ _ _=>⟨ob.slots,k b ob q⟩,fun _ _ _ n _=>n,fun b ob q _=>⟨ob,k b ob q⟩,fun _ _ q=>q,fun _ _ _ q=>q,fun _ ps q=>⟨#[],by rw[q];simp⟩⟩
theorem Un.refl:Un fs ex H H h h:=Un.kept fun _ _ q=>q
theorem Un.laid (k:∀b u,h.get? b=some u->h'.get? b=some u) (hp:h.objs.size<=a) (hn:H a=none):Un fs ex H (upd H a o) h h' where
 keep:=fun b u q _ _ _=>k b u q
 slot:=fun b u q _ _ _=>⟨u.slots,k b u q⟩
 free:=fun b u q n _=>by rw[zAq (xr (xC (xo q) hp))];exact n
 there:=fun b u q _=>⟨u,k b u q⟩
 tups:=fun b xs q=>by rw[zAq (zAm q hn)];exact q
 frzs:=fun b u xs q=>by rw[zAq (zAm q hn)];exact q
 tbls:=fun b ps q=>⟨#[],by rw[zAq (zAm q hn),q];simp⟩
theorem Un.write (mu:Mut (H x)) (he:e=x\/H e=some (.own x)) (k:∀b u,b≠e->h.get? b=some u->h'.get? b=some u) (heo:∃u,h'.get? e=some u):Un fs ex H (upd H x o) h h':=by
 have hx:∀b,H b=none->b≠x:=fun b n z=>by subst z;rw[n]at mu;exact mu
 have hb:∀b,H b=none->b≠e:=fun b n z=>by
  subst z
  rcases he with r|r
  ·exact hx b n r
  ·rw[n]at r;cases r
 have hm:∀b u,H b=some u->¬ Mut (some u)->b≠x:=fun b u q nm z=>by subst z;rw[q]at mu;exact nm mu
 refine⟨fun b u q n _ _=>k b u (hb b n) q,fun b u q n _ _=>⟨u.slots,k b u (hb b n) q⟩,fun b u q n _=>by rw[zAq (hx b n)];exact n,fun b u q _=>?_,
  fun b xs q=>by rw[zAq (hm b _ q fun z=>z)];exact q,fun b u xs q=>by rw[zAq (hm b _ q fun z=>z)];exact q,fun b ps q=>⟨#[],by rw[zAq (hm b _ q fun z=>z),q];simp⟩⟩
 by_cases hbe:b=e
 ·subst hbe;exact heo
 ·exact⟨u,k b u hbe q⟩
end
noncomputable def trk (h:Heap) (H:Hp):List Addr:=(List.range h.objs.size).filter fun a=>(H a).isSome
noncomputable def hidT (h:Heap) (H:Hp):Heap:=PySem.W.hideAll h (trk h H)
theorem zPs (h:Heap) (H:Hp):(hidT h H).objs.size=h.objs.size:=PySem.W.hideAll_size _ _
theorem zSv {h:Heap}{H:Hp}{b:Addr}{o:Obj}(e:h.get? b=some o) (n:H b=none):(hidT h H).get? b=some o:=
 PySem.W.hideAll_get _ e fun hm=>by
  have q:(H b).isSome=true:=(vE.mp hm).2
  rw[n]at q;simp at q
theorem zW0 {h:Heap}{H:Hp}{b:Addr}{o:Obj}(e:(hidT h H).get? b=some o):h.get? b=some o/\H b=none:=by
 have e':h.get? b=some o:=PySem.W.of_hideAll (trk h H) e
 refine⟨e',?_⟩
 cases q:H b with
 | none=>rfl
 | some x=>
  have hm:b∈trk h H:=vE.mpr ⟨vq.mpr (xo e'),by simp[q]⟩
  have z:(hidT h H).get? b=none:=PySem.W.hideAll_none (trk h H) hm
  rw[z]at e;cases e
noncomputable def zXb (g h:Heap) (L:Addr):List (Addr × Obj):=(List.range h.objs.size).filterMap fun a=>if a=L\/(g.get? a).isSome=true then none else(h.get? a).map fun o=>(a,o)
noncomputable def rest (g h:Heap) (L d:Addr):List (Addr × Obj):=(zXb g h L).filter fun p=>decide (p.1≠d)
end L2
namespace L2
open PySem PySem.Spec PyProof.Rows
structure Mod (K:PySem.W.Frag) (mg:Str->Option Value) (base:Heap):Prop where
 kin:K.In base
 glob:base.Ns mainGlobals mg
 blt:∃mb,base.Ns builtinsNs mb/\∀x:Str,x≠"__name__"->mb x=bootBuiltins x
 nolimit:base.NoLimit
/-- the context: a def's body (or a comprehension's block) running. base: fixed through the whole law;s₀,H₀: the entry;outer: the frames whose slots others may change (a def's callers);stack: all frames that run;
   ex: iterators that were made ahead of the entry and are walked here (a comprehension's);fn: the names whose cells were made at the entry (a def: all;a comprehension's block: its own);calm: not within an except suite;pn: pins that every state bears;xe: what is wanted of an exception that leaves the code -/
structure Cx where
  prog:Program
  w:World
  K:PySem.W.Frag
  mg:Str->Option Value
  base:Heap
  A:Around
  N:List Str
  s₀:Shared
  H₀:Hp
  env:Env
  outer:List Env
  stack:List Env
  ex:List Addr
  fn:Str->Bool
  calm:Bool
  pn:List (Addr × Obj)
  xe:Value->Shared->Prop
noncomputable def frs (l:List Env):List Addr:=l.filterMap (·.frame)
noncomputable abbrev Cx.fs (X:Cx):List Addr:=frs X.outer
noncomputable def Vis (sc:Scope) (x:Str):Prop:=sc.names.lookup x=some .local\/sc.names.lookup x=some .cell\/sc.names.lookup x=some .free
noncomputable def Loc (sc:Scope) (x:Str):Prop:=sc.names.lookup x=some .local\/sc.names.lookup x=some .cell
noncomputable def Look (env:Env) (h:Heap) (m:Str->Option Value) (x:Str) (u:Value):Prop:=
 (env.kindOf x=some .local/\m x=some u)\/((env.kindOf x=some .cell\/env.kindOf x=some .free)/\∃c,env.cells.lookup x=some c/\h.IsCell c (some u))
structure Cx.Ok (X:Cx):Prop where
 mod:Mod X.K X.mg X.base
 kind:X.env.scope.kind=.function
 glob:X.env.globals=mainGlobals
 blt:X.env.builtins=builtinsNs
 above:X.s₀.heap.objs.size<=X.env.locals
 inj:∀x y c,X.env.cells.lookup x=some c->X.env.cells.lookup y=some c->x=y
 has:∀x,(X.env.kindOf x=some .cell\/X.env.kindOf x=some .free)->∃c,X.env.cells.lookup x=some c
 cab:∀x c,X.fn x=true->X.env.cells.lookup x=some c->X.s₀.heap.objs.size<=c
 hd:X.calm=true->X.A.handled=none
 frames:X.A.frames=some X.stack
 stk:X.stack=X.outer\/(X.stack=X.env::X.outer/\X.env.frame=some X.env.locals)
 exf:∀b∈X.ex,b≠X.env.locals/\∀x c,X.env.cells.lookup x=some c->c≠b
 bs:∀b o,X.base.get? b=some o->X.s₀.heap.get? b=some o/\X.H₀ b=none
 bsz:X.base.objs.size<=X.s₀.heap.objs.size
 noex:∀b o,X.base.get? b=some o->b ∉ X.ex
 exfs:∀b∈X.ex,b ∉ X.fs
 funs:X.s₀.heap.FunFrames X.base X.outer
 frf:∀b∈X.fs,X.H₀ b=none
structure Inv (X:Cx) (pins:List (Addr × Obj)) (σ:List (Option V)) (H:Hp) (s:Shared):Prop where
 ok:X.Ok
 os:s.os=X.s₀.os
 bare:AllBare s.gens
 base:Un X.fs X.ex X.H₀ H X.s₀.heap s.heap
 loc:∃m,s.heap.Ns X.env.locals m/\∀(i:Nat) (x:Str) (v:V),X.N[i]?=some x->σ[i]?=some (some v)->Vis X.env.scope x->∃u,RelV v u/\Look X.env s.heap m x u
 cell:∀x c,X.env.cells.lookup x=some c->∃v,s.heap.IsCell c v
 free:H X.env.locals=none
 freeC:∀x c,X.env.cells.lookup x=some c->H c=none
 pin:∀p∈X.pn++pins,s.heap.get? p.1=some p.2/\H p.1=none/\p.1≠X.env.locals/\p.1 ∉ X.fs/\∀v,p.2.data≠.cell v
 hok:HOk X.prog X.w H s.heap
 len:σ.length=X.N.length
section
variable {X:Cx}{pins:List (Addr × Obj)}{σ:List (Option V)}{H H':Hp}{s:Shared}{h':Heap}
theorem Cx.Ok.nofr (ok:X.Ok) {b:Addr}{o:Obj}(e:X.base.get? b=some o):b ∉ X.fs:=fun hb=>by
 have:=(ok.funs.mem hb).1
 rw[e]at this;cases this
theorem Inv.bs (I:Inv X pins σ H s):∀b o,X.base.get? b=some o->s.heap.get? b=some o/\H b=none:=fun b o e=>
 ⟨I.base.keep b o (I.ok.bs b o e).1 (I.ok.bs b o e).2 (I.ok.nofr e) (I.ok.noex b o e),I.base.free b o (I.ok.bs b o e).1 (I.ok.bs b o e).2 (I.ok.noex b o e)⟩
theorem Inv.bk (I:Inv X pins σ H s):∀b o,X.base.get? b=some o->s.heap.get? b=some o:=fun b o e=>(I.bs b o e).1
theorem Inv.mod (I:Inv X pins σ H s):Mod X.K X.mg X.base:=I.ok.mod
theorem Inv.kIn (I:Inv X pins σ H s):X.K.In s.heap:=I.ok.mod.kin.keeps I.bk
theorem Inv.lt (I:Inv X pins σ H s):X.env.locals<s.heap.objs.size:=let ⟨_,hn,_⟩:=I.loc;hn.lt
theorem Inv.sz (I:Inv X pins σ H s):X.s₀.heap.objs.size<=s.heap.objs.size:=xk I.ok.above (vM I.lt)
theorem Inv.nofs (I:Inv X pins σ H s) {a:Addr}(h:s.heap.objs.size<=a):a ∉ X.fs:=fun hb=>by
 obtain⟨_,o,ho,_⟩:=I.ok.funs.mem hb
 exact absurd (xC (xo ho) (xk I.sz h)) (vA _)
theorem Inv.cne (I:Inv X pins σ H s):∀x c,X.env.cells.lookup x=some c->c≠X.env.locals:=fun x c e z=>by
 obtain⟨v,o,ho,hd⟩:=I.cell x c e
 obtain⟨m,⟨o',es,ep,ho',hd',_⟩,_⟩:=I.loc
 rw[z,ho']at ho;cases ho;rw[hd']at hd;cases hd
theorem Inv.funs (I:Inv X pins σ H s):s.heap.FunFrames X.base X.outer:=by
 have all:∀(l:List Env),(∀b∈frs l,b∈X.fs)->X.s₀.heap.FunFrames X.base l->s.heap.FunFrames X.base l:=by
  intro l
  induction l with
  | nil=>intro _ _;trivial
  | cons env r ih=>
   intro hs hl
   obtain⟨hk,⟨L,o,hf,hn,ho,hd⟩,hr⟩:=hl
   have hL:L∈X.fs:=hs L (by unfold frs;rw[uA,hf];exact xQ)
   obtain⟨sl,e⟩:=I.base.slot L o ho (I.ok.frf L hL) hL fun z=>I.ok.exfs L z hL
   exact⟨hk,⟨L,_,hf,hn,e,hd⟩,ih (fun b hb=>hs b (by unfold frs;rw[uA,hf];exact vt _ hb)) hr⟩
 exact all X.outer (fun _ hb=>hb) I.ok.funs
theorem Inv.stack (I:Inv X pins σ H s):s.heap.FunFrames X.base X.stack:=by
 rcases I.ok.stk with e|⟨e,hf⟩
 ·rw[e];exact I.funs
 ·rw[e]
  obtain⟨m,hn,_⟩:=I.loc
  refine .cons (by rw[I.ok.kind];decide) hf hn ?_ I.funs
  exact Heap.get?_none_of_le (xk I.ok.bsz I.ok.above)
theorem Inv.stkSub (I:Inv X pins σ H s):∀b∈frs X.stack,b∈X.env.locals::X.fs:=fun b hb=>by
 rcases I.ok.stk with e|⟨e,hf⟩
 ·rw[e]at hb;exact vt _ hb
 ·rw[e]at hb
  unfold frs at hb
  rw[uA,hf]at hb
  exact hb
theorem Inv.stkFree (I:Inv X pins σ H s):∀b∈frs X.stack,H b=none:=fun b hb=>by
 rcases xm.mp (I.stkSub b hb)with e|hb
 ·rw[e];exact I.free
 ·obtain⟨_,o,ho,_⟩:=I.ok.funs.mem hb
  exact I.base.free b o ho (I.ok.frf b hb) fun z=>I.ok.exfs b z hb
theorem Inv.step {g':Array GenState}{t':Nat}{d':Drawn}{ch:List Addr}(I:Inv X pins σ H s)
  (hch:∀b∈ch,(b∈X.ex\/X.s₀.heap.objs.size<=b)/\b≠X.env.locals/\(∀x c,X.env.cells.lookup x=some c->c≠b)/\∀p∈X.pn++pins,p.1≠b)
  (keep:∀b o,b≠X.env.locals->b ∉ X.fs->b ∉ ch->s.heap.get? b=some o->H b=none->h'.get? b=some o)
  (slot:∀b o,b≠X.env.locals->b∈X.fs->b ∉ ch->s.heap.get? b=some o->H b=none->∃sl,h'.get? b=some { o with slots:=sl }) (free:∀b o,b ∉ ch->s.heap.get? b=some o->H b=none->H' b=none)
  (there:∀b o,b ∉ ch->s.heap.get? b=some o->∃o',h'.get? b=some o')
  (tups:∀b xs,H b=some (.tup xs)->H' b=some (.tup xs)) (frzs:∀b o u,H b=some (.frz o u)->H' b=some (.frz o u)) (tbls:∀b ps,H b=some (.tbl ps)->∃more,H' b=some (.tbl (ps++more)))
  (ns:∀m,s.heap.Ns X.env.locals m->h'.Ns X.env.locals m) (hok:HOk X.prog X.w H' h') (hg:AllBare g'):
  Inv X pins σ H' { s with heap:=h',gens:=g',drawn:=d',toks:=t' }:=by
 have neL:∀b o,X.s₀.heap.get? b=some o->b≠X.env.locals:=fun b o e=>xr (xC (xo e) I.ok.above)
 have neC:∀b o,X.s₀.heap.get? b=some o->b ∉ X.ex->b ∉ ch:=fun b o e hx hb=>by
  rcases(hch b hb).1 with z|z
  ·exact hx z
  ·exact absurd (xC (xo e) z) (vA _)
 have cellK:∀x c,X.env.cells.lookup x=some c->∀v,s.heap.IsCell c v->h'.IsCell c v:=fun x c e v ⟨o,ho,hd⟩=>by
  have nch:c ∉ ch:=fun z=>(hch c z).2.2.1 x c e rfl
  by_cases hc:c∈X.fs
  ·obtain⟨sl,q⟩:=slot c o (I.cne x c e) hc nch ho (I.freeC x c e)
   exact⟨_,q,hd⟩
  ·exact⟨o,keep c o (I.cne x c e) hc nch ho (I.freeC x c e),hd⟩
 refine⟨I.ok,I.os,hg,⟨fun b o e n hb hx=>?_,fun b o e n hb hx=>?_,fun b o e n hx=>?_,fun b o e hx=>?_,fun b xs e=>tups b xs (I.base.tups b xs e),fun b o xs e=>frzs b o xs (I.base.frzs b o xs e),fun b ps e=>?_⟩,?_,fun x c e=>?_,?_,fun x c e=>?_,fun p hp=>?_,hok,I.len⟩
 ·exact keep b o (neL b o e) hb (neC b o e hx) (I.base.keep b o e n hb hx) (I.base.free b o e n hx)
 ·obtain⟨sl,e1⟩:=I.base.slot b o e n hb hx
  obtain⟨sl',e2⟩:=slot b _ (neL b o e) hb (neC b o e hx) e1 (I.base.free b o e n hx)
  exact⟨sl',e2⟩
 ·obtain⟨o',e1⟩:=I.base.there b o e hx
  exact free b o' (neC b o e hx) e1 (I.base.free b o e n hx)
 ·obtain⟨o',e1⟩:=I.base.there b o e hx
  exact there b o' (neC b o e hx) e1
 ·obtain⟨m1,e1⟩:=I.base.tbls b ps e
  obtain⟨m2,e2⟩:=tbls b _ e1
  exact⟨m1++m2,by rw[e2,Array.append_assoc]⟩
 ·obtain⟨m,hn,hl⟩:=I.loc
  refine⟨m,ns m hn,fun i x v e1 e2 e3=>?_⟩
  obtain⟨u,r,l⟩:=hl i x v e1 e2 e3
  refine⟨u,r,?_⟩
  rcases l with l|⟨k,c,e,z⟩
  ·exact .inl l
  ·exact .inr ⟨k,c,e,cellK x c e _ z⟩
 ·obtain⟨v,z⟩:=I.cell x c e
  exact⟨v,cellK x c e v z⟩
 ·obtain⟨m,⟨o,_,_,ho,_⟩,_⟩:=I.loc
  exact free _ o (fun z=>(hch _ z).2.1 rfl) ho I.free
 ·obtain⟨v,o,ho,hd⟩:=I.cell x c e
  exact free c o (fun z=>(hch c z).2.2.1 x c e rfl) ho (I.freeC x c e)
 ·obtain⟨e,n,ne,nf,d⟩:=I.pin p hp
  have nch:p.1 ∉ ch:=fun z=>(hch p.1 z).2.2.2 p hp rfl
  exact⟨keep p.1 p.2 ne nf nch e n,free p.1 p.2 nch e n,ne,nf,d⟩
theorem Inv.un {t':Nat}(I:Inv X pins σ H s) (u:Un X.fs [] H H' s.heap h') (hok:HOk X.prog X.w H' h'):Inv X pins σ H' { s with heap:=h',toks:=t' }:=by
 obtain⟨m,⟨o,es,ep,ho,r⟩,_⟩:=id I.loc
 obtain⟨sl,hL⟩:=u.any ho I.free (by simp)
 exact I.step (g':=s.gens) (d':=s.drawn) (ch:=[]) (fun _ z=>nomatch z) (fun b o _ hb _ e n=>u.keep b o e n hb (by simp)) (fun b o _ hb _ e n=>u.slot b o e n hb (by simp)) (fun b o _ e n=>u.free b o e n (by simp)) (fun b o _ e=>u.there b o e (by simp)) u.tups u.frzs u.tbls (fun m' hm=>by
  obtain⟨o',es',ep',ho',r'⟩:=hm
  rw[ho]at ho';cases ho'
  exact⟨_,es',ep',hL,r'⟩) hok I.bare
theorem Inv.call {g':Array GenState}{t':Nat}{d':Drawn}{ch:List Addr}(I:Inv X pins σ H s) (u:Un (frs X.stack) ch H H' s.heap h') (hok:HOk X.prog X.w H' h') (hg:AllBare g')
  (hch:∀b∈ch,(b∈X.ex\/X.s₀.heap.objs.size<=b)/\b≠X.env.locals/\(∀x c,X.env.cells.lookup x=some c->c≠b)/\∀p∈X.pn++pins,p.1≠b):
  Inv X pins σ H' { s with heap:=h',gens:=g',drawn:=d',toks:=t' }:=by
 obtain⟨m,⟨o,es,ep,ho,r⟩,_⟩:=id I.loc
 obtain⟨sl,hL⟩:=u.any ho I.free fun z=>(hch _ z).2.1 rfl
 exact I.step (ch:=ch) hch (fun b o hL hb hc e n=>u.keep b o e n (fun z=>(xm.mp (I.stkSub b z)).elim hL hb) hc) (fun b o _ _ hc e n=>u.any e n hc) (fun b o hc e n=>u.free b o e n hc) (fun b o hc e=>u.there b o e hc) u.tups u.frzs u.tbls (fun m' hm=>by
  obtain⟨o',es',ep',ho',r'⟩:=hm
  rw[ho]at ho';cases ho'
  exact⟨_,es',ep',hL,r'⟩) hok hg
theorem Inv.turned {t':Nat}{it:Addr}(I:Inv X pins σ H s) (k:∀b o,b≠it->s.heap.get? b=some o->h'.get? b=some o) (hn:H it=none) (hL:it≠X.env.locals)
  (h1:it∈X.ex\/X.s₀.heap.objs.size<=it) (h2:∀x c,X.env.cells.lookup x=some c->c≠it) (h3:∀p∈X.pn++pins,p.1≠it):Inv X pins σ H { s with heap:=h',toks:=t' }:=by
 have nit:∀b u,H b=some u->b≠it:=fun b u e z=>by rw[z,hn]at e;cases e
 refine I.step (g':=s.gens) (d':=s.drawn) (ch:=[it]) (fun b hb=>?_) (fun b o _ _ hc e _=>k b o (fun z=>hc (by simp[z])) e) (fun b o _ _ hc e _=>⟨o.slots,k b o (fun z=>hc (by simp[z])) e⟩) (fun _ _ _ _ n=>n)
  (fun b o hc e=>⟨o,k b o (fun z=>hc (by simp[z])) e⟩) (fun _ _ e=>e) (fun _ _ _ e=>e) (fun b ps e=>⟨#[],by rw[e];simp⟩) (fun m hm=>?_) (fun b u e=>?_) I.bare
 ·have e:b=it:=by simpa using hb
  subst e
  exact⟨h1,hL,h2,h3⟩
 ·obtain⟨o,es,ep,ho,r⟩:=hm
  exact⟨o,es,ep,k _ o (xw hL) ho,r⟩
 ·refine(I.hok b u e).stay (fun c v hc q=>k c v ?_ q) (fun _ q=>q) fun _ _ q=>q
  rcases hc with z|z
  ·rw[z];exact nit b u e
  ·exact nit c _ z
theorem Inv.tok (I:Inv X pins σ H s) (t:Nat):Inv X pins σ H { s with toks:=t }:=I.un (h':=s.heap) (t':=t) Un.refl I.hok
theorem Inv.kept {t':Nat}(I:Inv X pins σ H s) (k:∀b u,s.heap.get? b=some u->h'.get? b=some u):Inv X pins σ H { s with heap:=h',toks:=t' }:=I.un (Un.kept k) (I.hok.kept k)
theorem Inv.laid {a:Addr}{o:HO}{t':Nat}(I:Inv X pins σ H s) (k:∀b u,s.heap.get? b=some u->h'.get? b=some u) (hp:s.heap.objs.size<=a) (new:ObjOk X.prog X.w (upd H a o) h' a o):
  Inv X pins σ (upd H a o) { s with heap:=h',toks:=t' }:=I.un (Un.laid k hp (I.hok.fresh hp)) (I.hok.laid k hp new)
theorem Inv.write {x e:Addr}{o:HO}{t':Nat}(I:Inv X pins σ H s) (mu:Mut (H x)) (he:e=x\/H e=some (.own x)) (k:∀b u,b≠e->s.heap.get? b=some u->h'.get? b=some u) (heo:∃u,h'.get? e=some u)
  (new:ObjOk X.prog X.w (upd H x o) h' x o):Inv X pins σ (upd H x o) { s with heap:=h',toks:=t' }:=I.un (Un.write mu he k heo) (I.hok.write mu he k heo new)
theorem Inv.pins_of {pins':List (Addr × Obj)}(I:Inv X pins σ H s) (h:∀p∈pins',s.heap.get? p.1=some p.2/\H p.1=none/\p.1≠X.env.locals/\p.1 ∉ X.fs/\∀v,p.2.data≠.cell v):Inv X pins' σ H s:=
 ⟨I.ok,I.os,I.bare,I.base,I.loc,I.cell,I.free,I.freeC,fun p hp=>(xG.mp hp).elim (fun z=>I.pin p (vN _ z)) (h p),I.hok,I.len⟩
theorem zLq {N:List Str}(hN:N.Nodup) {i j:Nat}{x:Str}(a:N[i]?=some x) (b:N[j]?=some x):i=j:=by
 obtain⟨h1,e1⟩:=xH.mp a
 obtain⟨h2,e2⟩:=xH.mp b
 exact(List.getElem_inj hN).mp (e1.trans e2.symm)
theorem zIu {M:Model}{A:Around}{E:Value->Shared->Prop}{i:Nat}{x:Str}{v:V}{u:Value}{Q:Unit->Shared->Prop}(I:Inv X pins σ H s) (hN:X.N.Nodup) (hi:X.N[i]?=some x) (hx:Loc X.env.scope x) (r:RelV v u)
  (h:∀s',Inv X pins (σ.set i (some v)) H s'->(∃a,Heap.SameBut a s.heap s'.heap/\(a=X.env.locals\/X.env.cells.lookup x=some a))->Q () s') (hf:X.fn x=true\/X.env.scope.names.lookup x=some .local:=by first|exact .inl rfl|exact .inr rfl|assumption):wpAny M A (storeName X.env x u) Q E s:=by
 obtain⟨m,hn,hl⟩:=id I.loc
 have hcls:(X.env.scope.kind == .class || (X.env.scope.kind == .module && X.env.locals != X.env.globals))=false:=by rw[I.ok.kind];rfl
 have hiσ:i<σ.length:=by rw[I.len];exact(xH.mp hi).1
 have cne:=I.cne
 have tracked:∀{a:Addr}{h':Heap},(∃o,s.heap.get? a=some o/\H a=none)->Heap.SameBut a s.heap h'->HOk X.prog X.w H h':=fun {a h'} ha hs b ob e=>by
  obtain⟨_,_,hfree⟩:=ha
  refine(I.hok b ob e).stay (fun c w' hc q=>(hs.2 c ?_).trans q) (fun _ q=>q) fun _ _ q=>q
  rintro rfl
  rcases hc with rfl|hc
  ·rw[hfree]at e;cases e
  ·rw[hfree]at hc;cases hc
 rcases hx with hk|hk
 ·refine wpAny_storeName_local hk hn (fun h' hn' hs=>?_) hcls
  obtain⟨oL,_,_,hoL,_⟩:=id hn
  refine h _ ⟨I.ok,I.os,I.bare,⟨fun b o e n hb hx=>?_,fun b o e n hb hx=>?_,I.base.free,fun b o e hx=>?_,I.base.tups,I.base.frzs,I.base.tbls⟩,⟨_,hn',fun j y v' e1 e2 e3=>?_⟩,fun y c e=>?_,I.free,I.freeC,fun p hp=>?_,tracked ⟨oL,hoL,I.free⟩ hs,by simpa using I.len⟩ ⟨_,hs,.inl rfl⟩
  ·exact(hs.2 b (xr (xC (xo e) I.ok.above))).trans (I.base.keep b o e n hb hx)
  ·obtain⟨sl,e1⟩:=I.base.slot b o e n hb hx
   exact⟨sl,(hs.2 b (xr (xC (xo e) I.ok.above))).trans e1⟩
  ·obtain⟨o',e1⟩:=I.base.there b o e hx
   exact⟨o',(hs.2 b (xr (xC (xo e) I.ok.above))).trans e1⟩
  ·by_cases hj:j=i
   ·subst hj
    rw[hi]at e1;cases e1
    rw[vF hiσ]at e2
    cases e2
    exact⟨u,r,.inl ⟨hk,by simp⟩⟩
   ·rw[xO (xw hj)]at e2
    obtain⟨u',r',q⟩:=hl j y v' e1 e2 e3
    refine⟨u',r',?_⟩
    rcases q with⟨k,e⟩|⟨k,c,e,z⟩
    ·refine .inl ⟨k,?_⟩
     have:y≠x:=fun e=>hj (zLq hN e1 (e ▸ hi))
     simp[this,e]
    ·exact .inr ⟨k,c,e,z.sameBut hs (cne y c e)⟩
  ·obtain⟨w',z⟩:=I.cell y c e
   exact⟨w',z.sameBut hs (cne y c e)⟩
  ·obtain⟨e,n,ne,nf,d⟩:=I.pin p hp
   exact⟨(hs.2 p.1 ne).trans e,n,ne,nf,d⟩
 ·have hfn:X.fn x=true:=by
   rcases hf with z|z
   ·exact z
   ·rw[z]at hk;cases hk
  obtain⟨c,hc⟩:=I.ok.has x (.inl hk)
  obtain⟨w',z⟩:=I.cell x c hc
  refine wpAny_storeName_cell I.ok.kind hk hc z (fun h' hc' hs=>?_)
  obtain⟨oc,hoc,hocd⟩:=id z
  refine h { s with heap:=h' } ⟨I.ok,I.os,I.bare,⟨fun b o e n hb hx=>?_,fun b o e n hb hx=>?_,I.base.free,fun b o e hx=>?_,I.base.tups,I.base.frzs,I.base.tbls⟩,⟨m,hn.sameBut hs (xw (cne x c hc)),fun j y v' e1 e2 e3=>?_⟩,fun y c' e=>?_,I.free,I.freeC,fun p hp=>?_,tracked ⟨oc,hoc,I.freeC x c hc⟩ hs,by simpa using I.len⟩ ⟨c,hs,.inr hc⟩
  ·exact(hs.2 b (xr (xC (xo e) (I.ok.cab x c hfn hc)))).trans (I.base.keep b o e n hb hx)
  ·obtain⟨sl,e1⟩:=I.base.slot b o e n hb hx
   exact⟨sl,(hs.2 b (xr (xC (xo e) (I.ok.cab x c hfn hc)))).trans e1⟩
  ·obtain⟨o',e1⟩:=I.base.there b o e hx
   exact⟨o',(hs.2 b (xr (xC (xo e) (I.ok.cab x c hfn hc)))).trans e1⟩
  ·by_cases hj:j=i
   ·subst hj
    rw[hi]at e1;cases e1
    rw[vF hiσ]at e2
    cases e2
    exact⟨u,r,.inr ⟨.inl hk,c,hc,hc'⟩⟩
   ·rw[xO (xw hj)]at e2
    obtain⟨u',r',q⟩:=hl j y v' e1 e2 e3
    refine⟨u',r',?_⟩
    rcases q with q|⟨k,c',e,z'⟩
    ·exact .inl q
    ·refine .inr ⟨k,c',e,z'.sameBut hs ?_⟩
     rintro rfl
     exact hj (zLq hN e1 (I.ok.inj _ _ _ e hc ▸ hi))
  ·by_cases hcc:c'=c
   ·subst hcc;exact⟨_,hc'⟩
   ·obtain⟨w2,z2⟩:=I.cell y c' e
    exact⟨w2,z2.sameBut hs hcc⟩
  ·obtain⟨e,n,ne,nf,d⟩:=I.pin p hp
   refine⟨(hs.2 p.1 ?_).trans e,n,ne,nf,d⟩
   intro q
   rw[q,hoc]at e
   have q':oc=p.2:=xJ e
   exact d w' (by rw[<- q'];exact hocd)
theorem zFd {M:Model}{A:Around}{E:Value->Shared->Prop}{i:Nat}{x:Str}{v:V}{u:Value}{Q:Unit->Shared->Prop}(I:Inv X pins σ H s) (hN:X.N.Nodup) (hi:X.N[i]?=some x) (hx:Loc X.env.scope x) (r:RelV v u)
  (h:∀s',Inv X pins (σ.set i (some v)) H s'->Q () s') (hf:X.fn x=true\/X.env.scope.names.lookup x=some .local:=by first|exact .inl rfl|exact .inr rfl|assumption):wpAny M A (storeName X.env x u) Q E s:=
 zIu I hN hi hx r (fun s' I' _=>h s' I') hf
theorem Inv.call' {s':Shared}{ch:List Addr}(I:Inv X pins σ H s) (ho:s'.os=s.os) (u:Un (frs X.stack) ch H H' s.heap s'.heap) (hok:HOk X.prog X.w H' s'.heap) (hg:AllBare s'.gens)
  (hch:∀b∈ch,(b∈X.ex\/X.s₀.heap.objs.size<=b)/\b≠X.env.locals/\(∀x c,X.env.cells.lookup x=some c->c≠b)/\∀p∈X.pn++pins,p.1≠b):Inv X pins σ H' s':=by
 obtain⟨h',g',d',t',o'⟩:=s'
 have e:o'=s.os:=ho
 subst e
 exact I.call (g':=g') (t':=t') (d':=d') u hok hg hch
end
noncomputable abbrev XK:=Value->Option Addr->Hp->Prop
noncomputable abbrev St:=List (Option V)
noncomputable abbrev VK:=V->Hp->Prop
noncomputable abbrev TE:=St->Hp->VK->Prop
noncomputable abbrev TT:=St->Hp->(Bool->Hp->Prop)->Prop
noncomputable abbrev TA:=St->Hp->(List V->Hp->Prop)->Prop
structure Ends where
 nx:St->Hp->Prop
 rt:VK
 bk:St->Hp->Prop:=fun _ _=>False
 ct:St->Hp->Prop:=fun _ _=>False
noncomputable abbrev TS:=Ends->St->Hp->Prop
noncomputable def EP (X:Cx) (pins:List (Addr × Obj)) (σ:St) (Q:VK) (u:Value) (s':Shared):Prop:=∃v H',Inv X pins σ H' s'/\RelV v u/\Q v H'
noncomputable def TP (X:Cx) (pins:List (Addr × Obj)) (σ:St) (Q:Bool->Hp->Prop) (b:Bool) (s':Shared):Prop:=∃H',Inv X pins σ H' s'/\Q b H'
noncomputable def AP (X:Cx) (pins:List (Addr × Obj)) (σ:St) (Q:List V->Hp->Prop) (us:List Value) (s':Shared):Prop:=∃vs H',Inv X pins σ H' s'/\Vals vs us/\Q vs H'
noncomputable def SP (X:Cx) (pins:List (Addr × Obj)) (D:Ends) (f:Flow) (s':Shared):Prop:=
 match f with
 | .next=>∃σ' H',Inv X pins σ' H' s'/\D.nx σ' H'
 | .brk=>∃σ' H',Inv X pins σ' H' s'/\D.bk σ' H'
 | .cont=>∃σ' H',Inv X pins σ' H' s'/\D.ct σ' H'
 | .ret u=>∃v σ' H',Inv X pins σ' H' s'/\RelV v u/\D.rt v H'
noncomputable def PE (X:Cx) (e:Expr) (t:TE):Prop:=
 ∀(pins:List (Addr × Obj)) (s:Shared) (σ:St) (H:Hp) (Q:VK),Inv X pins σ H s->t σ H Q->wpAny (model X.prog X.w) X.A (eval e X.env) (EP X pins σ Q) X.xe s
noncomputable def PT (X:Cx) (e:Expr) (t:TT):Prop:=
 ∀(pins:List (Addr × Obj)) (s:Shared) (σ:St) (H:Hp) (Q:Bool->Hp->Prop),Inv X pins σ H s->t σ H Q->wpAny (model X.prog X.w) X.A (isTrue e X.env (eval e X.env)) (TP X pins σ Q) X.xe s
noncomputable def PW (X:Cx) (e:Expr) (t:TT):Prop:=
 ∀(whole:Sem Value) (pins:List (Addr × Obj)) (s:Shared) (σ:St) (H:Hp) (Q:Bool->Hp->Prop),Inv X pins σ H s->t σ H Q->wpAny (model X.prog X.w) X.A (isTrue e X.env whole) (TP X pins σ Q) X.xe s
theorem PW.pt {X:Cx}{e:Expr}{t:TT}(h:PW X e t):PT X e t:=h _
noncomputable def PA (X:Cx) (es:List Expr) (t:TA):Prop:=
 ∀(pos:Pos) (pins:List (Addr × Obj)) (s:Shared) (σ:St) (H:Hp) (Q:List V->Hp->Prop),Inv X pins σ H s->t σ H Q->wpAny (model X.prog X.w) X.A (spliced (backTo pos (starEach es X.env))) (AP X pins σ Q) X.xe s
noncomputable def PS (X:Cx) (st:Stmt) (t:TS):Prop:=
 ∀(pins:List (Addr × Obj)) (s:Shared) (σ:St) (H:Hp) (D:Ends),Inv X pins σ H s->t D σ H->wpAny (model X.prog X.w) X.A (exec st X.env) (SP X pins D) X.xe s
noncomputable def PSs (X:Cx) (st:List Stmt) (t:TS):Prop:=
 ∀(pins:List (Addr × Obj)) (s:Shared) (σ:St) (H:Hp) (D:Ends),Inv X pins σ H s->t D σ H->wpAny (model X.prog X.w) X.A (execs st X.env) (SP X pins D) X.xe s
theorem thn {α:Type}{t:Sem α}{Q Q':α->Shared->Prop}{M:Model}{A:Around}{E:Value->Shared->Prop}{s:Shared}(h:wpAny M A t Q E s) (hQ:∀a s,Q a s->Q' a s):wpAny M A t Q' E s:=vB h hQ fun _ _ x=>x
end L2
namespace L2
open PySem PySem.Spec PyProof.Rows
section
variable {X:Cx}
noncomputable def tVar (i:Nat):TE:=fun σ H Q=>∃v,σ[i]?=some (some v)/\Q v H
noncomputable def tC (v:V):TE:=fun _ H Q=>Q v H
theorem zYk {i:Nat}{x:Str}{pos:Pos}(hN:X.N[i]?=some x) (hv:Vis X.env.scope x) (hd:(x == ("__debug__":Str))=false:=by decide) (hcd:(x == ("__classdict__":Str))=false:=by decide):PE X (.Name x pos) (tVar i):=by
 intro pins s σ H Q I h
 obtain⟨v,e,h⟩:=h
 obtain⟨m,hn,hl⟩:=I.loc
 obtain⟨u,r,l⟩:=hl i x v hN e hv
 have fin:EP X pins σ Q u s:=⟨v,H,I,r,h⟩
 rcases l with⟨hk,hm⟩|⟨hk,c,hc,hcell⟩
 ·exact wpAny_Name (wpAny_loadName_local I.ok.kind hk hn hm fin) hd
 ·rcases hk with hk|hk
  ·exact wpAny_Name (wpAny_loadName_cell I.ok.kind hk hc hcell fin) hd
  ·exact wpAny_Name (wpAny_loadName_free I.ok.kind hk hc hcell fin hcd) hd
theorem zYr {i j pos}:PE X (.Constant (.int i) j pos) (tC (.int i)):=fun _ _ _ H _ I h=>wpAny_Constant_int ⟨.int i,H,I.tok _,⟨_,rfl⟩,h⟩
theorem yAv {b j pos}:PE X (.Constant (.bool b) j pos) (tC (.bl b)):=fun _ _ _ H _ I h=>Constant_bool ⟨.bl b,H,I,rfl,h⟩
theorem zYn {x j pos}:PE X (.Constant (.str x) j pos) (tC (.str x)):=fun _ _ _ H _ I h=>Calls.Constant_str ⟨.str x,H,I.tok _,⟨_,rfl⟩,h⟩
noncomputable def Gl (X:Cx) (x:Str):Prop:=X.env.kindOf x=some .globalImplicit
theorem zPe {E:Value->Shared->Prop}{pins:List (Addr × Obj)}{s:Shared}{σ:St}{H:Hp}{x:Str}{u:Value}{pos:Pos}{Q:Value->Shared->Prop}(I:Inv X pins σ H s) (hg:Gl X x) (hm:X.mg x=some u) (h:Q u s)
  (hd:(x == ("__debug__":Str))=false:=by decide):wpAny (model X.prog X.w) X.A (eval (.Name x pos) X.env) Q E s:=
 Calls.Name_function_global I.ok.kind hg (Calls.loadGlobal_global (by rw[I.ok.glob];exact I.mod.glob.keeps I.bk) hm h) hd
theorem zE3 {E:Value->Shared->Prop}{pins:List (Addr × Obj)}{s:Shared}{σ:St}{H:Hp}{x:Str}{u:Value}{pos:Pos}{Q:Value->Shared->Prop}(I:Inv X pins σ H s) (hg:Gl X x) (hm:X.mg x=none) (hv:bootBuiltins x=some u) (h:Q u s)
  (hn:x≠"__name__":=by decide) (hd:(x == ("__debug__":Str))=false:=by decide):wpAny (model X.prog X.w) X.A (eval (.Name x pos) X.env) Q E s:=by
 obtain⟨mb,h1,h2⟩:=I.mod.blt
 exact Calls.Name_function_global I.ok.kind hg (Calls.loadGlobal_builtin (by rw[I.ok.glob];exact I.mod.glob.keeps I.bk) hm (by rw[I.ok.blt];exact h1.keeps I.bk) ((h2 x hn).trans hv) h) hd
theorem zVo {x:Str}{v:V}{u:Value}{pos:Pos}(hg:Gl X x) (hm:X.mg x=some u) (r:RelV v u) (hd:(x == ("__debug__":Str))=false:=by decide):PE X (.Name x pos) (tC v):=
 fun _ _ _ H _ I h=>zPe I hg hm ⟨v,H,I,r,h⟩ hd
theorem zVs {x:Str}{v:V}{u:Value}{pos:Pos}(hg:Gl X x) (hm:X.mg x=none) (hv:bootBuiltins x=some u) (r:RelV v u) (hn:x≠"__name__":=by decide) (hd:(x == ("__debug__":Str))=false:=by decide):PE X (.Name x pos) (tC v):=
 fun _ _ _ H _ I h=>zE3 I hg hm hv ⟨v,H,I,r,h⟩ hn hd
variable {a b:Expr}{ta tb:TE}{pos:Pos}
variable {tA tB':TT}{rest:List Expr}
noncomputable def tAnd (t u:TT):TT:=fun σ H Q=>t σ H fun c H1=>if c=true then u σ H1 Q else Q false H1
noncomputable def tOr (t u:TT):TT:=fun σ H Q=>t σ H fun c H1=>if c=true then Q true H1 else u σ H1 Q
noncomputable def tNot (t:TT):TT:=fun σ H Q=>t σ H fun c H1=>Q (!c) H1
theorem zV4 (ha:PT X a tA):PW X (.BoolOp .And [a] pos) tA:=by
 intro wh pins s σ H Q I h
 refine isTrue_and (thn (ha pins s σ H Q I h) fun c s1 e=>?_)
 cases c with
 | true=>exact isTrue_and_nil e
 | false=>exact e
theorem zY8 (ha:PT X a tA):PW X (.BoolOp .Or [a] pos) tA:=by
 intro wh pins s σ H Q I h
 refine isTrue_or (thn (ha pins s σ H Q I h) fun c s1 e=>?_)
 cases c with
 | false=>exact isTrue_or_nil e
 | true=>exact e
theorem zYa (ha:PT X a tA) (hb:PW X (.BoolOp .And (b::rest) pos) tB'):PW X (.BoolOp .And (a::b::rest) pos) (tAnd tA tB'):=by
 intro wh pins s σ H Q I h
 refine isTrue_and (thn (ha pins s σ H _ I h) fun c s1 hq1=>?_)
 obtain⟨H1,I1,q1⟩:=hq1
 cases c with
 | true=>exact hb wh pins s1 σ H1 Q I1 q1
 | false=>exact⟨H1,I1,q1⟩
theorem yAn (ha:PT X a tA) (hb:PW X (.BoolOp .Or (b::rest) pos) tB'):PW X (.BoolOp .Or (a::b::rest) pos) (tOr tA tB'):=by
 intro wh pins s σ H Q I h
 refine isTrue_or (thn (ha pins s σ H _ I h) fun c s1 hq1=>?_)
 obtain⟨H1,I1,q1⟩:=hq1
 cases c with
 | true=>exact⟨H1,I1,q1⟩
 | false=>exact hb wh pins s1 σ H1 Q I1 q1
theorem zYb (ha:PT X a tA):PT X (.UnaryOp .Not a pos) (tNot tA):=by
 intro pins s σ H Q I h
 exact isTrue_not (ha pins s σ H (fun c H1=>Q (!c) H1) I h)
noncomputable def zXv (ta tb:TE):TE:=fun σ H Q=>ta σ H fun x H1=>∃c,x=.bl c/\if c=true then tb σ H1 Q else Q (.bl false) H1
theorem zYp {op}{t:TE}(h:PE X a t):PE X (.BoolOp op [a] pos) t:=fun pins s σ H Q I hw=>BoolOp_one (h pins s σ H Q I hw)
theorem zYw (ha:PE X a ta) (hb:PE X (.BoolOp .And (b::rest) pos) tb):PE X (.BoolOp .And (a::b::rest) pos) (zXv ta tb):=by
 intro pins s σ H Q I h
 refine BoolOp_and (thn (ha pins s σ H _ I h) fun v s1 hq1=>?_)
 obtain⟨x,H1,I1,r1,q1⟩:=hq1
 obtain⟨c,rfl,q1⟩:=q1
 cases r1
 refine vW ?_
 cases c with
 | true=>exact hb pins s1 σ H1 Q I1 q1
 | false=>exact⟨.bl false,H1,I1,rfl,q1⟩
end
end L2
namespace L2
open PySem PySem.Spec PyProof.Rows
noncomputable def SqL (K:PySem.W.Frag) (H:Hp) (a:Addr) (xs:List V):Prop:=
 Rd H a (.lst xs) \/
  ∃(o:Obj) (its:Array Value) (n:Nat),K.lookup a=some o/\o.cls=.type "list"/\o.dict=none/\o.data=.seq its n/\its.size<=sizeLine/\Vals xs its.toList
noncomputable def SqT (K:PySem.W.Frag) (H:Hp) (a:Addr) (xs:List V):Prop:=
 Rd H a (.tup xs) \/
  ∃(o:Obj) (its:Array Value) (n:Nat),K.lookup a=some o/\o.cls=.type "tuple"/\o.data=.seq its n/\its.size<=sizeLine/\Vals xs its.toList
noncomputable def absV:Value->Option V
 | .none=>some .non
 | .bool b=>some (.bl b)
 | .int i _=>some (.int i)
 | .str x _=>some (.str x)
 | .bytes b _=>some (.byt b)
 | .float b _=>some (.flt b)
 | .ref a=>some (.ref a)
 | .type n=>some (.ty n)
 | _=>none
theorem RelV.abs {x:V}{u:Value}(r:RelV x u):absV u=some x:=by
 cases x with
 | non=>cases r;rfl
 | bl _=>cases r;rfl
 | int _=>obtain⟨t,rfl⟩:=r;rfl
 | str _=>obtain⟨t,rfl⟩:=r;rfl
 | byt _=>obtain⟨t,rfl⟩:=r;rfl
 | flt _=>obtain⟨t,rfl⟩:=r;rfl
 | ref _=>cases r;rfl
 | ty _=>cases r;rfl
theorem RelV.inj {x y:V}{u:Value}(r:RelV x u) (q:RelV y u):x=y:=xJ (r.abs.symm.trans q.abs)
theorem Vals.inj:∀{xs ys:List V}{us:List Value},Vals xs us->Vals ys us->xs=ys
 | _,_,_,.nil,.nil=>rfl
 | _,_,_,.cons r t,.cons r' t'=>by rw[r.inj r',Vals.inj t t']
section
variable {X:Cx}{pins:List (Addr × Obj)}{σ:St}{H:Hp}{s:Shared}{a:Addr}{xs ys:List V}
theorem SqL.of {K:PySem.W.Frag}(h:H a=some (.lst xs)):SqL K H a xs:=.inl (.inl h)
theorem SqT.of {K:PySem.W.Frag}(h:H a=some (.tup xs)):SqT K H a xs:=.inl (.inl h)
theorem Inv.list (I:Inv X pins σ H s) (h:SqL X.K H a xs):∃its:List Value,Vals xs its/\PlainL s.heap a its.toArray/\xs.length<=sizeLine:=by
 rcases h with h|⟨o,its,n,hk,hc,hd,hs,hz,r⟩
 ·obtain⟨z,its,n,r,e⟩:=h.ok I.hok
  exact⟨its,r,⟨_,n,e,rfl,rfl,rfl⟩,z⟩
 ·refine⟨its.toList,r,⟨o,n,I.kIn a o hk,hc,hd,by simpa using hs⟩,?_⟩
  have e:=r.length
  simp only[uB]at e
  lia
theorem Inv.tuple (I:Inv X pins σ H s) (h:SqT X.K H a xs):∃its:List Value,Vals xs its/\IsTup s.heap a its.toArray/\xs.length<=sizeLine:=by
 rcases h with h|⟨o,its,n,hk,hc,hs,hz,r⟩
 ·obtain⟨z,its,r,p⟩:=h.ok I.hok
  exact⟨its,r,p,z⟩
 ·refine⟨its.toList,r,⟨o,I.kIn a o hk,hc,n,by simpa using hs⟩,?_⟩
  have e:=r.length
  simp only[uB]at e
  lia
theorem Inv.list_inj (I:Inv X pins σ H s) (h:SqL X.K H a xs) (h':SqL X.K H a ys):xs=ys:=by
 obtain⟨its,r,⟨o,n,e,_,_,d⟩,_⟩:=I.list h
 obtain⟨its',r',⟨o',n',e',_,_,d'⟩,_⟩:=I.list h'
 rw[e]at e';cases e'
 rw[d]at d'
 injection d' with d1 _
 have:its=its':=by simpa using congrArg Array.toList d1
 subst this
 exact r.inj r'
theorem Inv.tuple_inj (I:Inv X pins σ H s) (h:SqT X.K H a xs) (h':SqT X.K H a ys):xs=ys:=by
 obtain⟨its,r,⟨o,e,_,n,d⟩,_⟩:=I.tuple h
 obtain⟨its',r',⟨o',e',_,n',d'⟩,_⟩:=I.tuple h'
 rw[e]at e';cases e'
 rw[d]at d'
 injection d' with d1 _
 have:its=its':=by simpa using congrArg Array.toList d1
 subst this
 exact r.inj r'
end
noncomputable abbrev Cx.wish (X:Cx) (E:Value->Shared->Prop):Cx:={ X with xe:=E }
noncomputable abbrev Cx.nox (X:Cx):Cx:=X.wish fun _ _=>False
theorem Cx.Ok.wish {X:Cx}(ok:X.Ok) (E:Value->Shared->Prop):(X.wish E).Ok:=
 ⟨ok.mod,ok.kind,ok.glob,ok.blt,ok.above,ok.inj,ok.has,ok.cab,ok.hd,ok.frames,ok.stk,ok.exf,ok.bs,ok.bsz,ok.noex,ok.exfs,ok.funs,ok.frf⟩
theorem Cx.Ok.unwish {X:Cx}{E:Value->Shared->Prop}(ok:(X.wish E).Ok):X.Ok:=
 ⟨ok.mod,ok.kind,ok.glob,ok.blt,ok.above,ok.inj,ok.has,ok.cab,ok.hd,ok.frames,ok.stk,ok.exf,ok.bs,ok.bsz,ok.noex,ok.exfs,ok.funs,ok.frf⟩
section
variable {X:Cx}{pins:List (Addr × Obj)}{σ:St}{H:Hp}{s:Shared}{E:Value->Shared->Prop}
theorem Inv.wish (I:Inv X pins σ H s) (E:Value->Shared->Prop):Inv (X.wish E) pins σ H s:=⟨I.ok.wish E,I.os,I.bare,I.base,I.loc,I.cell,I.free,I.freeC,I.pin,I.hok,I.len⟩
theorem Inv.unwish (I:Inv (X.wish E) pins σ H s):Inv X pins σ H s:=⟨I.ok.unwish,I.os,I.bare,I.base,I.loc,I.cell,I.free,I.freeC,I.pin,I.hok,I.len⟩
theorem SP.unwish {D:Ends}{f:Flow}{s':Shared}(h:SP (X.wish E) pins D f s'):SP X pins D f s':=by
 cases f with
 | next=>obtain⟨σ',H',I,q⟩:=h;exact⟨σ',H',I.unwish,q⟩
 | brk=>obtain⟨σ',H',I,q⟩:=h;exact⟨σ',H',I.unwish,q⟩
 | cont=>obtain⟨σ',H',I,q⟩:=h;exact⟨σ',H',I.unwish,q⟩
 | ret u=>obtain⟨v,σ',H',I,r,q⟩:=h;exact⟨v,σ',H',I.unwish,r,q⟩
theorem PSs.nox {st:List Stmt}{t:TS}(h:PSs X.nox st t):PSs X st t:=fun pins s σ H D I hw=>
 vB (h pins s σ H D (I.wish _) hw) (fun _ _ q=>q.unwish) fun _ _ z=>False.elim z
end
section
variable {X:Cx}{st:Stmt}{rest:List Stmt}{t u:TS}{e:Expr}{te:TE}{pos:Pos}
noncomputable def zXt:TS:=fun D σ H=>D.nx σ H
noncomputable def tSeq (t u:TS):TS:=fun D σ H=>t { D with nx:=u D } σ H
theorem zVa:PSs X [] zXt:=fun _ _ σ H _ I h=>wpAny_execs_nil ⟨σ,H,I,h⟩
theorem zRs (h1:PS X st t) (h2:PSs X rest u):PSs X (st::rest) (tSeq t u):=by
 intro pins s σ H D I h
 refine wpAny_execs_cons (thn (h1 pins s σ H { D with nx:=u D } I h) fun f s1 q=>?_)
 cases f with
 | next=>
  obtain⟨σ',H',I',q⟩:=q
  exact h2 pins s1 σ' H' D I' q
 | ret v=>exact q
 | brk=>exact q
 | cont=>exact q
theorem zV9 (h1:PS X st t):PSs X [st] t:=by
 intro pins s σ H D I h
 refine wpAny_execs_cons (thn (h1 pins s σ H D I h) fun f s1 q=>?_)
 cases f with
 | next=>exact wpAny_execs_nil q
 | ret v=>exact q
 | brk=>exact q
 | cont=>exact q
theorem Inv.quiet {pins:List (Addr × Obj)}{σ:St}{H:Hp}{s:Shared}(I:Inv X pins σ H s):interactive X.env=false:=by simp[interactive,I.ok.kind]
noncomputable def zUo (te:TE):TS:=fun D σ H=>te σ H fun _ H1=>D.nx σ H1
theorem zVd (he:PE X e te) (hs:swapsWith e none pos.line X.env=pure false:=by rfl):PS X (.Expr e pos) (zUo te):=by
 intro pins s σ H D I h
 exact wpAny_Expr_any (thn (he pins s σ H _ I h) fun v s1 hz1=>by obtain⟨x,H1,I1,r1,q1⟩:=hz1;exact ⟨σ,H1,I1,q1⟩) I.quiet hs
noncomputable def tRet (te:TE):TS:=fun D σ H=>te σ H D.rt
theorem zYd (he:PE X e te):PS X (.Return (some e) pos) (tRet te):=by
 intro pins s σ H D I h
 exact wpAny_Return_some (thn (he pins s σ H _ I h) fun v s1 hz2=>by obtain⟨x,H1,I1,r1,q1⟩:=hz2;exact ⟨x,σ,H1,I1,r1,q1⟩)
noncomputable def tIfS (c:TT) (t u:TS):TS:=fun D σ H=>c σ H fun b H1=>if b=true then t D σ H1 else u D σ H1
theorem yAo {c:Expr}{a b:List Stmt}{tc:TT}(hc:PT X c tc) (ha:PSs X a t) (hb:PSs X b u):PS X (.If c a b pos) (tIfS tc t u):=by
 intro pins s σ H D I h
 refine wpAny_If (thn (hc pins s σ H _ I h) fun d s1 hq1=>?_)
 obtain⟨H1,I1,q1⟩:=hq1
 cases d with
 | true=>exact ha pins s1 σ H1 D I1 q1
 | false=>exact hb pins s1 σ H1 D I1 q1
end
noncomputable abbrev TG:=V->St->Hp->(St->Hp->Prop)->Prop
noncomputable abbrev TGs:=List V->St->Hp->(St->Hp->Prop)->Prop
noncomputable def PG (X:Cx) (target:Expr) (t:TG):Prop:=
 ∀(pins:List (Addr × Obj)) (s:Shared) (σ:St) (H:Hp) (v:V) (u:Value) (Q:St->Hp->Prop),Inv X pins σ H s->RelV v u->t v σ H Q->
  wpAny (model X.prog X.w) X.A (assign target X.env u) (fun _ s'=>∃σ' H',Inv X pins σ' H' s'/\Q σ' H') X.xe s
noncomputable def PGs (X:Cx) (ts:List Expr) (t:TGs):Prop:=
 ∀(pins:List (Addr × Obj)) (s:Shared) (σ:St) (H:Hp) (vs:List V) (us:List Value) (Q:St->Hp->Prop),Inv X pins σ H s->Vals vs us->t vs σ H Q->
  wpAny (model X.prog X.w) X.A (assignInOrder ((assignEach ts X.env).map (·.2)) us) (fun _ s'=>∃σ' H',Inv X pins σ' H' s'/\Q σ' H') X.xe s
noncomputable abbrev TSet:=V->V->V->Hp->(Hp->Prop)->Prop
noncomputable def PSet (X:Cx) (t:TSet):Prop:=
 ∀(pins:List (Addr × Obj)) (s:Shared) (σ:St) (H:Hp) (o i v:V) (ov iv u:Value) (Q:Hp->Prop),Inv X pins σ H s->RelV o ov->RelV i iv->RelV v u->t o i v H Q->
  wpAny (model X.prog X.w) X.A (setItem ov iv u) (fun _ s'=>∃H',Inv X pins σ H' s'/\Q H') X.xe s
section
variable {X:Cx}{pos:Pos}
noncomputable def gName (i:Nat):TG:=fun v σ H Q=>Q (σ.set i (some v)) H
theorem zVj {i:Nat}{x:Str}(hN:X.N.Nodup) (hi:X.N[i]?=some x) (hx:Loc X.env.scope x) (hf:X.fn x=true\/X.env.scope.names.lookup x=some .local:=by first|exact .inl rfl|exact .inr rfl|assumption):PG X (.Name x pos) (gName i):=by
 intro pins s σ H v u Q I r h
 exact wpAny_assign_Name (zFd I hN hi hx r (fun s' I'=>⟨_,H,I',h⟩) hf)
noncomputable def gNil:TGs:=fun vs σ H Q=>vs=[]/\Q σ H
noncomputable def zWo (t:TG) (u:TGs):TGs:=fun vs σ H Q=>∃v r,vs=v::r/\t v σ H fun σ' H'=>u r σ' H' Q
theorem zVh:PGs X [] gNil:=by
 intro pins s σ H vs us Q I r h
 obtain⟨e,h⟩:=h
 subst e
 cases r
 exact assignInOrder_nil ⟨σ,H,I,h⟩
theorem zS1 {e:Expr}{es:List Expr}{t:TG}{u:TGs}(h1:PG X e t) (h2:PGs X es u)
  (hs:(assignEach (e::es) X.env).map (·.2)=assign e X.env::(assignEach es X.env).map (·.2):=by rfl):PGs X (e::es) (zWo t u):=by
 intro pins s σ H vs us Q I r h
 obtain⟨v,vr,e1,h⟩:=h
 subst e1
 cases r with
 | cons r rr=>
  rw[hs]
  refine assignInOrder_cons (thn (h1 pins s σ H _ _ _ I r h) fun _ s1 hq1=>?_)
  obtain⟨σ1,H1,I1,q1⟩:=hq1
  exact h2 pins s1 σ1 H1 _ _ Q I1 rr q1
noncomputable def gTup (K:PySem.W.Frag) (n:Nat) (t:TGs):TG:=fun v σ H Q=>∃a xs,v=.ref a/\SqT K H a xs/\xs.length=n/\t xs σ H Q
theorem zYi {es:List Expr}{k:Nat}{t:TGs}{n:Nat}(hc:X.calm=true) (h:PGs X es t)
  (hn:(assignEach es X.env).length=n:=by rfl) (hst:(assignEach es X.env).findIdx? (·.1)=none:=by rfl):PG X (.Tuple es k pos) (gTup X.K n t):=by
 intro pins s σ H v u Q I r hw
 obtain⟨a,xs,e1,hq,hl,hw⟩:=hw
 subst e1
 cases r
 obtain⟨its,rv,ht,hz⟩:=I.tuple hq
 refine assign_Tuple_tuple (I.ok.hd hc) ht (by simp[hn,<- hl,rv.length]) hst fun h' hx=>?_
 have I1:Inv X pins σ H { s with heap:=h' }:=I.kept (t':=s.toks) fun b o e=>hx b o (xr (xo e)) e
 exact h pins _ σ H xs _ Q I1 (by simpa using rv) hw
noncomputable def gSub (to ti:TE) (t:TSet):TG:=fun v σ H Q=>to σ H fun o H1=>ti σ H1 fun i H2=>t o i v H2 fun H3=>Q σ H3
theorem zYj {o i:Expr}{to ti:TE}{t:TSet}(ho:PE X o to) (hi:PE X i ti) (hs:PSet X t)
  (ha:∀v,assign (.Subscript o i pos) X.env v=(do
   let ov <- holding [v] (eval o X.env)
   let iv <- holding [v,ov] (eval i X.env)
   standAt pos
   holding [v,ov,iv] (setItem ov iv v)
   release [v,ov,iv] []):=by intro _;rfl):PG X (.Subscript o i pos) (gSub to ti t):=by
 intro pins s σ H v u Q I r h
 rw[ha]
 refine xa (xK (thn (ho pins s σ H _ I h) fun ov s1 hq1=>?_))
 obtain⟨x,H1,I1,r1,q1⟩:=hq1
 refine xa (xK (thn (hi pins s1 σ H1 _ I1 q1) fun iv s2 hq1=>?_))
 obtain⟨y,H2,I2,r2,q2⟩:=hq1
 refine xa (wpAny_standAt (xa (xK (thn (hs pins s2 σ H2 x y v ov iv u _ I2 r1 r2 r q2) fun _ s3 hq1=>?_))))
 obtain⟨H3,I3,q3⟩:=hq1
 exact wpAny_release ⟨σ,H3,I3,q3⟩
noncomputable def tAsg (te:TE) (g:TG):TS:=fun D σ H=>te σ H fun x H1=>g x σ H1 D.nx
theorem zOq {tg e:Expr}{te:TE}{g:TG}(he:PE X e te) (hg:PG X tg g) (hs:swapsWithSole [tg] e pos.line X.env=pure false:=by rfl) (hw:swappedStores [tg] e X.env=pure none:=by rfl)
  (h1:(assignEach [tg] X.env).map (·.2)=[assign tg X.env]:=by rfl):PS X (.Assign [tg] e pos) (tAsg te g):=by
 intro pins s σ H D I h
 refine wpAny_Assign_stores (thn (he pins s σ H _ I h) fun v s1 hq1=>?_) hs hw
 obtain⟨x,H1,I1,r1,q1⟩:=hq1
 rw[h1]
 exact thn (hg pins s1 σ H1 x v _ I1 r1 q1) fun _ s2 q=>q
theorem zYc {i:Nat}{x:Str}{e:Expr}{te:TE}{pos':Pos}(hN:X.N.Nodup) (hi:X.N[i]?=some x) (hx:Loc X.env.scope x) (he:PE X e te) (hs:swapsWith e (some (.Name x pos')) pos.line X.env=pure false:=by rfl) (hf:X.fn x=true\/X.env.scope.names.lookup x=some .local:=by first|exact .inl rfl|exact .inr rfl|assumption):
  PS X (.Assign [.Name x pos'] e pos) (tAsg te (gName i)):=by
 intro pins s σ H D I h
 refine wpAny_Assign_Name (thn (he pins s σ H _ I h) fun v s1 hq1=>?_) hs
 obtain⟨y,H1,I1,r1,q1⟩:=hq1
 exact zFd I1 hN hi hx r1 (fun s2 I2=>⟨_,H1,I2,q1⟩) hf
noncomputable def tPar (i j:Nat) (ta:TA):TS:=fun D σ H=>ta σ H fun vs H1=>∃v w,vs=[v,w]/\D.nx ((σ.set i (some v)).set j (some w)) H1
theorem zYe {i j:Nat}{x y:Str}{a b:Expr}{ta:TA}{px py pt:Pos}{kt k2 pt2} (hc:X.calm=true) (hN:X.N.Nodup) (hi:X.N[i]?=some x) (hj:X.N[j]?=some y) (hij:i≠j)
  (hx:X.env.scope.names.lookup x=some .local) (hy:X.env.scope.names.lookup y=some .local) (ha:PA X [a,b] ta)
  (hw:swappedStores [.Tuple [.Name x px,.Name y py] kt pt] (.Tuple [a,b] k2 pt2) X.env=pure (some [x,y]))
  (hs:swapsWithSole [.Tuple [.Name x px,.Name y py] kt pt] (.Tuple [a,b] k2 pt2) pos.line X.env=pure false:=by rfl):
  PS X (.Assign [.Tuple [.Name x px,.Name y py] kt pt] (.Tuple [a,b] k2 pt2) pos) (tPar i j ta):=by
 intro pins s σ H D I h
 rw[exec_Assign_arm]
 refine xa (wpAny_standAt ?_)
 rw[hs]
 refine xa (xh ?_)
 rw[xg (by decide)]
 refine xa (Tuple_ (thn (ha _ pins s σ H _ I h) fun us s1 hq1=>?_))
 obtain⟨vs,H1,I1,r1,q1⟩:=hq1
 obtain⟨v,w,e1,q1⟩:=q1
 subst e1
 obtain⟨u1,u2,rfl,rv,rw'⟩:∃u1 u2,us=[u1,u2]/\RelV v u1/\RelV w u2:=by
  cases r1 with
  | cons p q=>
   cases q with
   | cons p' q'=>
    cases q'
    exact⟨_,_,rfl,p,p'⟩
 refine vk ?_ (by show 2<=sizeLine;decide)
 have I2:Inv X pins σ H1 { s1 with heap:=s1.heap.push { cls:=.type "tuple",data:=.seq [u1,u2].toArray } }:=I1.kept (t':=s1.toks) fun b o e=>xn _ e
 rw[hw]
 refine xa (xh ?_)
 show wpAny (model X.prog X.w) X.A (do rule "assign.swapped-stores";let items <- unpackItems (.ref s1.heap.objs.size) 2 none;assignInOrder [fun v=>bindName X.env y v,fun v=>bindName X.env x v] items.reverse;pure Flow.next) _ _ _
 refine xa (vG (xa (unpackItems_tuple (items:=#[u1,u2]) (I.ok.hd hc) (IsTup.new s1.heap _) fun h' hx'=>?_)))
 have I3:=I2.kept (h':=h') (t':=s1.toks) fun b o e=>hx' b o (xr (xo e)) e
 show wpAny _ _ (assignInOrder [fun v=>bindName X.env y v,fun v=>bindName X.env x v] [u2,u1] >>= fun _=>pure Flow.next) _ _ _
 refine xa (assignInOrder_cons (wpAny_bindName (zFd I3 hN hj (.inl hy) rw' (fun s2 I4=>?_) (.inr hy))))
 refine assignInOrder_cons (wpAny_bindName (zFd I4 hN hi (.inl hx) rv (fun s3 I5=>assignInOrder_nil (xh ?_)) (.inr hx)))
 rw[List.set_comm _ _ (xw hij)]at I5
 exact⟨_,H1,I5,q1⟩
end
section
variable {X:Cx}{pos:Pos}
noncomputable def zTm (c:TT) (tb:TS):TS:=fun D σ H=>∃W:Nat->St->Hp->Prop,(∃m,W m σ H)/\∀m σ H,W m σ H->
 c σ H fun b H1=>if b=true then ∃N:St->Hp->Prop,(∀σ' H',N σ' H'->∃m',m'<m/\W m' σ' H')/\tb { D with nx:=N,ct:=N,bk:=D.nx } σ H1 else D.nx σ H1
theorem zRt {c:Expr}{body:List Stmt}{tc:TT}{tb:TS}(hp:PassesOwn (model X.prog X.w) X.A X.env X.xe) (hc:PT X c tc) (hb:PSs X body tb):PS X (.While c body [] pos) (zTm tc tb):=by
 intro pins s σ H D I h
 obtain⟨W,⟨m0,w0⟩,turn⟩:=h
 refine wpAny_While (codeAny_whileLoop (fun n s'=>∃σ' H',Inv X pins σ' H' s'/\W n σ' H') ?_ m0 ⟨σ,H,I,w0⟩)
 rintro n s1 ⟨σ1,H1,I1,w1⟩
 refine uC hp (thn (hc pins s1 σ1 H1 _ I1 (turn n σ1 H1 w1)) fun b s2 hq1=>?_)
 obtain⟨H2,I2,q2⟩:=hq1
 cases b with
 | true=>
  obtain⟨N,hN,q2⟩:=q2
  rw[xf rfl]
  refine uC hp (thn (hb pins s2 σ1 H2 _ I2 q2) fun f s3 q3=>?_)
  cases f with
  | next=>
   obtain⟨σ3,H3,I3,n3⟩:=q3
   obtain⟨m',hm,w3⟩:=hN σ3 H3 n3
   exact⟨m',hm,σ3,H3,I3,w3⟩
  | cont=>
   obtain⟨σ3,H3,I3,n3⟩:=q3
   obtain⟨m',hm,w3⟩:=hN σ3 H3 n3
   exact⟨m',hm,σ3,H3,I3,w3⟩
  | brk=>exact q3
  | ret v=>exact q3
 | false=>
  rw[xg yg]
  exact wpAny_execs_nil ⟨σ1,H2,I2,q2⟩
end
structure It where
 go:Nat->Hp->Prop
 yld:Nat->Hp->V->Hp->Prop
 stop:Nat->Hp->Prop
noncomputable def FpOk (X:Cx) (pins:List (Addr × Obj)) (H:Hp) (b:Addr):Prop:=
 H b=none/\b≠X.env.locals/\b ∉ X.fs/\(b∈X.ex\/X.s₀.heap.objs.size<=b)/\(∀x c,X.env.cells.lookup x=some c->c≠b)/\∀p∈X.pn++pins,p.1≠b
theorem Inv.fpOk {X:Cx}{pins:List (Addr × Obj)}{σ:St}{H H':Hp}{s:Shared}{b:Addr}(I:Inv X pins σ H s) (hb:s.heap.objs.size<=b) (hn:H' b=none):FpOk X pins H' b:=by
 refine⟨hn,uf (xC I.lt hb),I.nofs hb,.inr (xk I.sz hb),fun x c e z=>?_,fun p hp z=>?_⟩
 ·obtain⟨v,q⟩:=I.cell x c e
  exact absurd (xC q.lt (by rw[z];exact hb)) (vA _)
 ·exact absurd (xC (xo (I.pin p hp).1) (by rw[z];exact hb)) (vA _)
structure Turn (P:Program) (w:World) (K:PySem.W.Frag) (tg:Expr) (J:It) (fp:List Addr) (it:Addr) (tn:Nat->Heap->Prop):Prop where
 mem:it∈fp
 obj:∀i h,tn i h->∀b∈fp,∃o,h.get? b=some o/\∀v,o.data≠.cell v
 keep:∀i h h',tn i h->(∀b∈fp,∀o,h.get? b=some o->h'.get? b=some o)->tn i h'
 item:∀(X:Cx),X.prog=P->X.w=w->X.K=K->X.calm=true->∀(i:Nat) (pins:List (Addr × Obj)) (s:Shared) (σ:St) (H:Hp) (E:Value->Shared->Prop),Inv X pins σ H s->(∀b∈fp,FpOk X pins H b)->tn i s.heap->J.go i H->
  wpAny (model P w) X.A (pyNext (.ref it)) (fun r s1=>∃u,r=some u /\
   wpAny (model P w) X.A (letOwnedTupleGo tg (.ref it) u) (fun _ s2=>∃x H',Inv X pins σ H' s2/\RelV x u/\J.yld i H x H'/\tn (i+1) s2.heap/\∀b∈fp,H' b=none) E s1) E s
 done:∀(X:Cx),X.prog=P->X.w=w->X.K=K->X.calm=true->∀(i:Nat) (pins:List (Addr × Obj)) (s:Shared) (σ:St) (H:Hp) (E:Value->Shared->Prop),Inv X pins σ H s->(∀b∈fp,FpOk X pins H b)->tn i s.heap->J.stop i H->
  wpAny (model P w) X.A (pyNext (.ref it)) (fun r s1=>r=none/\Inv X pins σ H s1) E s
 self:∀(A:Around) (i:Nat) (s:Shared) (Q:Value->Shared->Prop) (E:Value->Shared->Prop),tn i s.heap->Q (.ref it) s->wpAny (model P w) A (pyIter (.ref it)) Q E s
noncomputable abbrev TI:=St->Hp->(It->Hp->Prop)->Prop
noncomputable def PIE (X:Cx) (pins:List (Addr × Obj)) (σ:St) (tg:Expr) (R:It->Hp->Prop) (itv:Value) (s2:Shared):Prop:=
 ∃(it:Addr) (fp:List Addr) (tn:Nat->Heap->Prop) (J:It) (H':Hp),itv=.ref it/\Inv X pins σ H' s2/\Turn X.prog X.w X.K tg J fp it tn/\tn 0 s2.heap/\(∀b∈fp,FpOk X pins H' b)/\R J H'
noncomputable def PI (X:Cx) (tg iter:Expr) (wi:TI):Prop:=
 ∀(pins:List (Addr × Obj)) (s:Shared) (σ:St) (H:Hp) (R:It->Hp->Prop),Inv X pins σ H s->wi σ H R->
  wpAny (model X.prog X.w) X.A (eval iter X.env) (fun v s1=>wpAny (model X.prog X.w) X.A (pyIter v) (PIE X pins σ tg R) X.xe s1) X.xe s
theorem zSw {M:Model}{A:Around}{E:Value->Shared->Prop}{s:Shared}{tg:Expr}{it:Addr}{u:Value}{o:Obj}{n:String}{vs:Array Value}{Q:Unit->Shared->Prop}(ho:s.heap.get? it=some o) (hc:o.cls=.type n) (hd:o.data=.fields vs)
    (hn:["enumerate","zip","dict_itemiterator","dict_reverseitemiterator","odict_iterator","itertools.zip_longest","itertools.pairwise"].contains n=false) (hQ:Q () s):wpAny M A (letOwnedTupleGo tg (.ref it) u) Q E s:=by
  unfold letOwnedTupleGo
  cases tg <;> first
    | exact xh hQ
    | (cases u <;> first
        | exact xh hQ
        | (refine xa (wpAny_load ho ?_)
           rw[hc,hd]
           show wpAny M A (if(["enumerate","zip","dict_itemiterator","dict_reverseitemiterator","odict_iterator","itertools.zip_longest","itertools.pairwise"].contains n && vs[0]? == some (rawInt _))=true then _ else _) Q E s
           rw[xg (by intro h;rw[hn,Bool.false_and]at h;cases h)]
           exact xh hQ))
noncomputable def Itl (K:PySem.W.Frag) (a:Addr):It:=
 ⟨fun i H=>∃xs x,SqL K H a xs/\xs[i]?=some x,fun i H x H'=>H'=H/\∀xs,SqL K H a xs->xs[i]?=some x,fun i H=>∃xs,SqL K H a xs/\xs.length<=i⟩
noncomputable def Itt (K:PySem.W.Frag) (a:Addr):It:=
 ⟨fun i H=>∃xs x,SqT K H a xs/\xs[i]?=some x,fun i H x H'=>H'=H/\∀xs,SqT K H a xs->xs[i]?=some x,fun i H=>∃xs,SqT K H a xs/\xs.length<=i⟩
noncomputable def Itr (lo:Int) (n:Nat):It:=⟨fun i _=>i<n,fun i H x H'=>H'=H/\x=.int (lo+i),fun i _=>n<=i⟩
theorem zNu {P:Program}{w:World}{K:PySem.W.Frag}{tg:Expr}(a it:Addr):Turn P w K tg (Itl K a) [it] it (fun i h=>h.IsListIter it a i) where
 mem:=by simp
 obj:=fun i h st b hb=>by
  have e:b=it:=by simpa using hb
  subst e
  obtain⟨o,e,c,d⟩:=st
  exact⟨o,e,fun v z=>by rw[d]at z;cases z⟩
 keep:=fun i h h' st k=>st.at fun o e=>k it (by simp) o e
 item:=by
  intro X hP hw hK hc i pins s σ H E I hf st hg
  subst hP hw hK
  obtain⟨xs,x,hq,hx⟩:=hg
  obtain⟨its,rv,p,hz⟩:=I.list hq
  obtain⟨u,hu,ru⟩:=rv.get hx
  obtain⟨f0,f1,f2,f3,f4,f5⟩:=hf it (by simp)
  refine wpAny_pyNext_list_item st p.isList (x:=u) (by simpa using hu) fun h' st' sb=>?_
  have I1:Inv X pins σ H { s with heap:=h' }:=I.turned (t':=s.toks) (fun b o hb e=>(sb.2 b hb).trans e) f0 f1 f3 f4 f5
  obtain⟨o,e,c,d⟩:=id st'
  exact⟨u,rfl,zSw (s:={ s with heap:=h' }) e c d (by decide) ⟨x,H,I1,ru,⟨rfl,fun ys hy=>by rw[I.list_inj hy hq];exact hx⟩,st',fun b hb=>(hf b hb).1⟩⟩
 done:=by
  intro X hP hw hK hc i pins s σ H E I hf st hg
  subst hP hw hK
  obtain⟨xs,hq,hx⟩:=hg
  obtain⟨its,rv,p,hz⟩:=I.list hq
  obtain⟨f0,f1,f2,f3,f4,f5⟩:=hf it (by simp)
  have hl:=rv.length
  exact wpAny_pyNext_list_end (I.ok.hd hc) st p.isList (by simp;lia) fun h' eb=>⟨rfl,I.turned (t':=s.toks) (fun b o hb e=>eb b o hb e) f0 f1 f3 f4 f5⟩
 self:=fun _ _ _ _ _ st h=>wpAny_pyIter_listiter st h
theorem zMl {P:Program}{w:World}{K:PySem.W.Frag}{tg:Expr}(a it:Addr):Turn P w K tg (Itt K a) [it] it (fun i h=>h.IsTupleIter it a i) where
 mem:=by simp
 obj:=fun i h st b hb=>by
  have e:b=it:=by simpa using hb
  subst e
  obtain⟨o,e,c,d⟩:=st
  exact⟨o,e,fun v z=>by rw[d]at z;cases z⟩
 keep:=fun i h h' st k=>st.at fun o e=>k it (by simp) o e
 item:=by
  intro X hP hw hK hc i pins s σ H E I hf st hg
  subst hP hw hK
  obtain⟨xs,x,hq,hx⟩:=hg
  obtain⟨its,rv,p,hz⟩:=I.tuple hq
  obtain⟨u,hu,ru⟩:=rv.get hx
  obtain⟨f0,f1,f2,f3,f4,f5⟩:=hf it (by simp)
  refine wpAny_pyNext_tuple_item st (show s.heap.IsTuple a its.toArray from p) (x:=u) (by simpa using hu) fun h' st' sb=>?_
  have I1:Inv X pins σ H { s with heap:=h' }:=I.turned (t':=s.toks) (fun b o hb e=>(sb.2 b hb).trans e) f0 f1 f3 f4 f5
  obtain⟨o,e,c,d⟩:=id st'
  exact⟨u,rfl,zSw (s:={ s with heap:=h' }) e c d (by decide) ⟨x,H,I1,ru,⟨rfl,fun ys hy=>by rw[I.tuple_inj hy hq];exact hx⟩,st',fun b hb=>(hf b hb).1⟩⟩
 done:=by
  intro X hP hw hK hc i pins s σ H E I hf st hg
  subst hP hw hK
  obtain⟨xs,hq,hx⟩:=hg
  obtain⟨its,rv,p,hz⟩:=I.tuple hq
  obtain⟨f0,f1,f2,f3,f4,f5⟩:=hf it (by simp)
  have hl:=rv.length
  exact wpAny_pyNext_tuple_end (I.ok.hd hc) st (show s.heap.IsTuple a its.toArray from p) (by simp;lia) fun h' eb=>⟨rfl,I.turned (t':=s.toks) (fun b o hb e=>eb b o hb e) f0 f1 f3 f4 f5⟩
 self:=fun _ _ _ _ _ st h=>wpAny_pyIter_tupleiter st h
theorem zMm {P:Program}{w:World}{K:PySem.W.Frag}{tg:Expr}(it:Addr) (lo:Int) (n:Nat):Turn P w K tg (Itr lo n) [it] it (fun i h=>IsRangeIter h it (lo+(i:Nat)*1) ((n:Int)-(i:Nat)) 1) where
 mem:=by simp
 obj:=fun i h st b hb=>by
  have e:b=it:=by simpa using hb
  subst e
  exact⟨_,st,fun v z=>by
   have z':Data.fields _=Data.cell v:=z
   cases z'⟩
 keep:=fun i h h' st k=>k it (by simp) _ st
 item:=by
  intro X hP hw hK hc i pins s σ H E I hf st hg
  subst hP hw hK
  obtain⟨f0,f1,f2,f3,f4,f5⟩:=hf it (by simp)
  have W:=Walks.range (prog:=X.prog) (w:=X.w) (I.ok.hd hc) it lo 1 n
  refine W.item i s _ _ hg st fun v h' tk hv st' kk=>?_
  obtain⟨t,rfl⟩:=hv
  have I1:Inv X pins σ H { s with heap:=h',toks:=tk }:=I.turned (fun b o hb e=>kk b o (by simpa using hb) e) f0 f1 f3 f4 f5
  refine⟨_,rfl,zSw (s:={ s with heap:=h',toks:=tk }) (n:="range_iterator") st' rfl rfl (by decide) ⟨.int (lo+i),H,I1,⟨t,?_⟩,⟨rfl,rfl⟩,st',fun b hb=>(hf b hb).1⟩⟩
  rw[Int.mul_one]
 done:=by
  intro X hP hw hK hc i pins s σ H E I hf st hg
  subst hP hw hK
  obtain⟨f0,f1,f2,f3,f4,f5⟩:=hf it (by simp)
  exact wpAny_pyNext_range_end (I.ok.hd hc) st (by have:n<=i:=hg;lia) fun h' eb=>⟨rfl,I.turned (t':=s.toks) (fun b o hb e=>eb b o hb e) f0 f1 f3 f4 f5⟩
 self:=fun _ _ _ _ _ st h=>wpAny_pyIter_rangeiter st h
end L2
namespace L2
open PySem PySem.Spec PyProof.Rows
section
variable {X:Cx}{tg:Expr}
theorem zRk {pins:List (Addr × Obj)}{σ:St}{H:Hp}{s:Shared}{R:It->Hp->Prop}{E:Value->Shared->Prop}{lo hi:Int}{t u v:Tok}{tk:Nat}(I:Inv X pins σ H s) (h1:-(2 ^ 62)<=lo) (h2:lo<2 ^ 62) (h3:-(2 ^ 62)<=hi) (h4:hi<2 ^ 62)
  (q:R (Itr lo (hi-lo).toNat) H):wpAny (model X.prog X.w) X.A (pyIter (.ref s.heap.objs.size)) (PIE X pins σ tg R) E { s with heap:=s.heap.push { cls:=.type "range",data:=.fields #[.int lo t,.int hi u,.int 1 v] },toks:=tk }:=by
 refine wpAny_pyIter_range (IsRange.new ..) (small_one h1 h2 h3 h4) ?_
 have I1:Inv X pins σ H { s with heap:=s.heap.push { cls:=.type "range",data:=.fields #[.int lo t,.int hi u,.int 1 v] },toks:=tk }:=I.kept fun b o e=>xn _ e
 refine⟨(s.heap.push { cls:=.type "range",data:=.fields #[.int lo t,.int hi u,.int 1 v] }).objs.size,[(s.heap.push { cls:=.type "range",data:=.fields #[.int lo t,.int hi u,.int 1 v] }).objs.size],_,_,H,rfl,
  I1.kept (t':=tk) fun b o e=>xn _ e,zMm _ lo (hi-lo).toNat,?_,fun b hb=>?_,q⟩
 ·have e1:lo+((0:Nat):Int)*1=lo:=by simp
  have e2:(((hi-lo).toNat:Nat):Int)-((0:Nat):Int)=Builtin.Range.rangeSize lo hi 1:=by rw[rangeSize_one];split <;> lia
  show IsRangeIter _ _ (lo+((0:Nat):Int)*1) ((((hi-lo).toNat:Nat):Int)-((0:Nat):Int)) 1
  rw[e1,e2]
  exact xA _ rfl
 ·have e:b=(s.heap.push { cls:=.type "range",data:=.fields #[.int lo t,.int hi u,.int 1 v] }).objs.size:=by simpa using hb
  subst e
  exact I1.fpOk (xi _) (I1.hok.fresh (xi _))
noncomputable def zWk (ta:TA):TI:=fun σ H R=>ta σ H fun vs H1=>∃j:Int,vs=[.int j]/\-(2 ^ 62)<=j/\j<2 ^ 62/\R (Itr 0 j.toNat) H1
theorem zOw {a:Expr}{ta:TA}{p pos:Pos}(hg:Gl X "range") (hm:X.mg "range"=none) (ha:PA X [a] ta) (hs:starEach [a] X.env=[(false,eval a X.env)]:=by rfl):PI X tg (.Call (.Name "range" p) [a] [] pos) (zWk ta):=by
 intro pins s σ H R I h
 refine Call_ (zE3 I hg hm boot_range (uD (thn (ha pos pins s σ H _ I h) fun us s1 hq1=>?_) hs rfl))
 obtain⟨vs,H1,I1,r1,q1⟩:=hq1
 obtain⟨j,e,q1,q2,q⟩:=q1
 subst e
 cases r1 with
 | cons r rr=>
  cases rr
  obtain⟨t,rfl⟩:=r
  exact call_range_1 (zRk I1 (by nofun) (by nofun) q1 q2 (by simpa using q))
noncomputable def tFor (wi:TI) (g:TG) (tb:TS):TS:=fun D σ H=>wi σ H fun J H1=>∃W:Nat->Nat->St->Hp->Prop,(∃m,W 0 m σ H1)/\∀i m σ H,W i m σ H->
 (J.stop i H/\D.nx σ H)\/(J.go i H/\∃N:St->Hp->Prop,(∀σ' H',N σ' H'->∃m',m'<m/\W (i+1) m' σ' H')/\∀x H',J.yld i H x H'->g x σ H' fun σ2 H2=>tb { D with nx:=N,ct:=N,bk:=D.nx } σ2 H2)
noncomputable def zJ0 (fp:List Addr) (h:Heap):List (Addr × Obj):=fp.filterMap fun b=>(h.get? b).map fun o=>(b,o)
theorem zDt {fp:List Addr}{h:Heap}{b:Addr}{o:Obj}(hb:b∈fp) (e:h.get? b=some o):(b,o)∈zJ0 fp h:=uT.mpr ⟨b,hb,by rw[e];rfl⟩
theorem zP6 {fp:List Addr}{h:Heap}{p:Addr × Obj}(hp:p∈zJ0 fp h):p.1∈fp/\h.get? p.1=some p.2:=by
 obtain⟨b,hb,e⟩:=uT.mp hp
 cases q:h.get? b with
 | none=>rw[q]at e;cases e
 | some o=>
  rw[q]at e
  have e':(b,o)=p:=xJ e
  subst e'
  exact⟨hb,q⟩
theorem Inv.pinned {pins:List (Addr × Obj)}{σ:St}{H:Hp}{s:Shared}{fp:List Addr}(I:Inv X pins σ H s) (hf:∀b∈fp,FpOk X pins H b) (ho:∀b∈fp,∃o,s.heap.get? b=some o/\∀v,o.data≠.cell v):Inv X (pins++zJ0 fp s.heap) σ H s:=
 I.pins_of fun p hp=>(xG.mp hp).elim (fun z=>I.pin p (vc _ z)) fun z=>by
  obtain⟨hb,e⟩:=zP6 z
  obtain⟨f0,f1,f2,_⟩:=hf p.1 hb
  obtain⟨o,e',d⟩:=ho p.1 hb
  rw[e]at e';cases e'
  exact⟨e,f0,f1,f2,d⟩
theorem Inv.unpinned {pins pl:List (Addr × Obj)}{σ:St}{H:Hp}{s:Shared}(I:Inv X (pins++pl) σ H s):Inv X pins σ H s:=I.pins_of fun p hp=>I.pin p (vc _ (vN _ hp))
theorem zYg {iter:Expr}{body:List Stmt}{wi:TI}{g:TG}{tb:TS}{pos:Pos}(hp:PassesOwn (model X.prog X.w) X.A X.env X.xe) (hc:X.calm=true) (hi:PI X tg iter wi) (hg:PG X tg g) (hb:PSs X body tb)
  (hs:∀x,foldedSetIterable iter X.env x=pure x:=by intro _;rfl):PS X (.For tg iter body [] pos) (tFor wi g tb):=by
 intro pins s σ H D I h
 refine wpAny_For (thn (hi pins s σ H _ I h) fun v s1 h1=>thn h1 fun itv s2 h2=>?_) hs
 obtain⟨it,fp,tn,J,H2,e,I2,T,st2,f2,W,⟨m0,w0⟩,turn⟩:=h2
 subst e
 -- what stays true of the iterator's objects through the loop
 have stat:∀{H':Hp},(∀b∈fp,H' b=none)->∀b∈fp,FpOk X pins H' b:=fun hn b hb=>⟨hn b hb,(f2 b hb).2⟩
 refine codeAny_forLoop_any (fun n s'=>∃i σ' H',Inv X pins σ' H' s'/\tn i s'.heap/\(∀b∈fp,H' b=none)/\W i n σ' H') ?_ m0 ⟨0,σ,H2,I2,st2,fun b hb=>(f2 b hb).1,w0⟩
 rintro n s3 ⟨i,σ3,H3,I3,st3,fr3,w3⟩
 rcases turn i n σ3 H3 w3 with⟨stop,qn⟩|⟨go,N,hN,step⟩
 ·refine uC hp (thn (T.done X rfl rfl rfl hc i pins s3 σ3 H3 X.xe I3 (stat fr3) st3 stop) fun r s4 hq1=>?_)
  obtain⟨hr,I4⟩:=hq1
  subst hr
  exact wpAny_execs_nil ⟨σ3,H3,I4,qn⟩
 ·refine uC hp (thn (T.item X rfl rfl rfl hc i pins s3 σ3 H3 X.xe I3 (stat fr3) st3 go) fun r s4 hq1=>?_)
  obtain⟨u,hr,h4⟩:=hq1
  subst hr
  refine uC hp (thn h4 fun _ s5 hq1=>?_)
  obtain⟨x,H5,I5,r5,y5,st5,fr5⟩:=hq1
  have I5':=I5.pinned (stat fr5) (T.obj _ _ st5)
  refine uC hp (thn (hg _ s5 σ3 H5 x u _ I5' r5 (step x H5 y5)) fun _ s6 hq1=>?_)
  obtain⟨σ6,H6,I6,q6⟩:=hq1
  refine uC hp (thn (hb _ s6 σ6 H6 _ I6 q6) fun f s7 q7=>?_)
  have again:∀{σ7:St}{H7:Hp},Inv X (pins++zJ0 fp s5.heap) σ7 H7 s7->N σ7 H7->∃m,m<n/\∃i σ' H',Inv X pins σ' H' s7/\tn i s7.heap/\(∀b∈fp,H' b=none)/\W i m σ' H':=fun {σ7 H7} I7 n7=>by
   obtain⟨m',hm,w7⟩:=hN σ7 H7 n7
   refine⟨m',hm,i+1,σ7,H7,I7.unpinned,T.keep _ _ _ st5 fun b hb o e=>(I7.pin (b,o) (vc _ (vc _ (zDt hb e)))).1,fun b hb=>?_,w7⟩
   obtain⟨o,e,d⟩:=T.obj _ _ st5 b hb
   exact(I7.pin (b,o) (vc _ (vc _ (zDt hb e)))).2.1
  cases f with
  | next=>obtain⟨σ7,H7,I7,n7⟩:=q7;exact again I7 n7
  | cont=>obtain⟨σ7,H7,I7,n7⟩:=q7;exact again I7 n7
  | brk=>obtain⟨σ7,H7,I7,q7⟩:=q7;exact⟨σ7,H7,I7.unpinned,q7⟩
  | ret v=>obtain⟨x7,σ7,H7,I7,r7,q7⟩:=q7;exact⟨x7,σ7,H7,I7.unpinned,r7,q7⟩
end
end L2
namespace L2
open PySem PySem.Spec PyProof.Rows
noncomputable abbrev R2:=V->V->Hp->VK->Prop
noncomputable def OpR (X:Cx) (f:Value->Value->Sem Value) (r:R2):Prop:=
 ∀(pins:List (Addr × Obj)) (s:Shared) (σ:St) (H:Hp) (x y:V) (v u:Value) (Q:VK),Inv X pins σ H s->RelV x v->RelV y u->r x y H Q->
  wpAny (model X.prog X.w) X.A (f v u) (EP X pins σ Q) X.xe s
noncomputable def UnR (X:Cx) (f:Value->Sem Value) (r:V->Hp->VK->Prop):Prop:=
 ∀(pins:List (Addr × Obj)) (s:Shared) (σ:St) (H:Hp) (x:V) (v:Value) (Q:VK),Inv X pins σ H s->RelV x v->r x H Q->
  wpAny (model X.prog X.w) X.A (f v) (EP X pins σ Q) X.xe s
noncomputable def zBs (X:Cx) (f:Value) (r:List V->Hp->VK->Prop):Prop:=
 ∀(pins:List (Addr × Obj)) (s:Shared) (σ:St) (H:Hp) (xs:List V) (us:List Value) (Q:VK),Inv X pins σ H s->Vals xs us->r xs H Q->
  wpAny (model X.prog X.w) X.A (call f us) (EP X pins σ Q) X.xe s
noncomputable def TruR (X:Cx) (r:V->Hp->(Bool->Hp->Prop)->Prop):Prop:=
 ∀(pins:List (Addr × Obj)) (s:Shared) (σ:St) (H:Hp) (x:V) (v:Value) (Q:Bool->Hp->Prop),Inv X pins σ H s->RelV x v->r x H Q->
  wpAny (model X.prog X.w) X.A (truthy v) (TP X pins σ Q) X.xe s
noncomputable def tOp (r:R2) (ta tb:TE):TE:=fun σ H Q=>ta σ H fun x H1=>tb σ H1 fun y H2=>r x y H2 Q
noncomputable def tUn (r:V->Hp->VK->Prop) (ta:TE):TE:=fun σ H Q=>ta σ H fun x H1=>r x H1 Q
noncomputable def rI (C:Int->Int->Prop) (g:Int->Int->V):R2:=fun x y H Q=>∃i j,x=.int i/\y=.int j/\C i j/\Q (g i j) H
noncomputable def rI0 (g:Int->Int->V):R2:=fun x y H Q=>∃i j,x=.int i/\y=.int j/\Q (g i j) H
noncomputable def rU (g:Int->V):V->Hp->VK->Prop:=fun x H Q=>∃i,x=.int i/\Q (g i) H
section
variable {X:Cx}{a b c:Expr}{ta tb tc:TE}{pos:Pos}
theorem binT (ha:PE X a ta) (hb:PE X b tb) {pins:List (Addr × Obj)}{s:Shared}{σ:St}{H:Hp}{R:V->V->Hp->Prop}(I:Inv X pins σ H s)
  (h:ta σ H fun x H1=>tb σ H1 fun y H2=>R x y H2) {Q:Value->Shared->Prop}{f:Value->Value->Sem Value}
  (hf:∀v u s2 x y H2,Inv X pins σ H2 s2->RelV x v->RelV y u->R x y H2->wpAny (model X.prog X.w) X.A (f v u) Q X.xe s2):
  wpAny (model X.prog X.w) X.A (eval a X.env) (fun v s₁=>wpAny (model X.prog X.w) X.A (eval b X.env) (fun u s₂=>wpAny (model X.prog X.w) X.A (f v u) Q X.xe s₂) X.xe s₁) X.xe s:=by
 refine thn (ha pins s σ H _ I h) fun v s1 hq1=>?_
 obtain⟨x,H1,I1,r1,q1⟩:=hq1
 refine thn (hb pins s1 σ H1 _ I1 q1) fun u s2 hq1=>?_
 obtain⟨y,H2,I2,r2,q2⟩:=hq1
 exact hf v u s2 x y H2 I2 r1 r2 q2
theorem yAs {op:Operator}{r:R2}(ho:OpR X (binaryOp op) r) (ha:PE X a ta) (hb:PE X b tb):PE X (.BinOp a op b pos) (tOp r ta tb):=by
 intro pins s σ H Q I h
 exact wpAny_BinOp (binT ha hb I h fun v u s2 x y H2 I2 rx ry q=>ho pins s2 σ H2 x y v u Q I2 rx ry q)
theorem yAr {op:UnaryOp}{r:V->Hp->VK->Prop}(ho:UnR X (unaryOp op) r) (ha:PE X a ta):PE X (.UnaryOp op a pos) (tUn r ta):=by
 intro pins s σ H Q I h
 exact UnaryOp_ (thn (ha pins s σ H _ I h) fun v s1 hz3=>by obtain⟨x,H1,I1,r1,q1⟩:=hz3;exact ho pins s1 σ H1 x v Q I1 r1 q1)
theorem opI {f:Value->Value->Sem Value}{C:Int->Int->Prop}{g:Int->Int->Int}
  (rule:∀(i j:Int) (t u:Tok) (s:Shared) (Q:Value->Shared->Prop) (E:Value->Shared->Prop),C i j->Q (.int (g i j) s.toks) { s with toks:=s.toks+1 }->wpAny (model X.prog X.w) X.A (f (.int i t) (.int j u)) Q E s):
  OpR X f (rI C fun i j=>.int (g i j)):=by
 intro pins s σ H x y v u Q I rx ry h
 obtain⟨i,j,rfl,rfl,hc,q⟩:=h
 obtain⟨t,rfl⟩:=rx
 obtain⟨t',rfl⟩:=ry
 exact rule i j t t' s _ _ hc ⟨.int (g i j),H,I.tok _,⟨_,rfl⟩,q⟩
theorem opI0 {f:Value->Value->Sem Value}{g:Int->Int->Int}
  (rule:∀(i j:Int) (t u:Tok) (s:Shared) (Q:Value->Shared->Prop) (E:Value->Shared->Prop),Q (.int (g i j) s.toks) { s with toks:=s.toks+1 }->wpAny (model X.prog X.w) X.A (f (.int i t) (.int j u)) Q E s):
  OpR X f (rI0 fun i j=>.int (g i j)):=by
 intro pins s σ H x y v u Q I rx ry h
 obtain⟨i,j,rfl,rfl,q⟩:=h
 obtain⟨t,rfl⟩:=rx
 obtain⟨t',rfl⟩:=ry
 exact rule i j t t' s _ _ ⟨.int (g i j),H,I.tok _,⟨_,rfl⟩,q⟩
theorem opB0 {f:Value->Value->Sem Value}{g:Int->Int->Bool}
  (rule:∀(i j:Int) (t u:Tok) (s:Shared) (Q:Value->Shared->Prop) (E:Value->Shared->Prop),Q (.bool (g i j)) s->wpAny (model X.prog X.w) X.A (f (.int i t) (.int j u)) Q E s):
  OpR X f (rI0 fun i j=>.bl (g i j)):=by
 intro pins s σ H x y v u Q I rx ry h
 obtain⟨i,j,rfl,rfl,q⟩:=h
 obtain⟨t,rfl⟩:=rx
 obtain⟨t',rfl⟩:=ry
 exact rule i j t t' s _ _ ⟨.bl (g i j),H,I,rfl,q⟩
noncomputable def CPow (i j:Int):Prop:=0<=j/\j<=1000000/\i.natAbs<2 ^ 64
theorem zZ1:OpR X (binaryOp .Add) (rI0 fun i j=>.int (i+j)):=opI0 fun _ _ _ _ _ _ _ q=>add_int q
theorem zYy:OpR X (binaryOp .Sub) (rI0 fun i j=>.int (i-j)):=opI0 fun _ _ _ _ _ _ _ q=>sub_int q
theorem zZ0:OpR X (binaryOp .Mod) (rI (fun _ j=>0<j) fun i j=>.int (i % j)):=opI fun i j _ _ _ _ _ hc q=>by
 have h1:(0:Int)<j:=hc
 exact mod_int' (by nofun) (by rw[Int.fmod_eq_emod_of_nonneg i (by nofun)];exact q)
theorem zYz:OpR X (binaryOp .Pow) (rI CPow fun i j=>.int (i ^ j.toNat)):=opI fun _ _ _ _ _ _ _ hc q=>pow_int_small hc.1 hc.2.1 hc.2.2 q
theorem unI {f:Value->Sem Value}{g:Int->Int}
  (rule:∀(i:Int) (t:Tok) (s:Shared) (Q:Value->Shared->Prop) (E:Value->Shared->Prop),Q (.int (g i) s.toks) { s with toks:=s.toks+1 }->wpAny (model X.prog X.w) X.A (f (.int i t)) Q E s):
  UnR X f (rU fun i=>.int (g i)):=by
 intro pins s σ H x v Q I rx h
 obtain⟨i,rfl,q⟩:=h
 obtain⟨t,rfl⟩:=rx
 exact rule i t s _ _ ⟨.int (g i),H,I.tok _,⟨_,rfl⟩,q⟩
theorem zXn:UnR X (unaryOp .USub) (rU fun i=>.int (-i)):=unI fun _ _ _ _ _ q=>neg_int q
end
section
variable {X:Cx}{a b c:Expr}{ta tb tc:TE}{pos:Pos}
theorem yB4:OpR X (compareOp .Lt) (rI0 fun i j=>.bl (decide (i<j))):=opB0 fun _ _ _ _ _ _ _ q=>lt_int q
theorem yB5:OpR X (compareOp .LtE) (rI0 fun i j=>.bl (decide (i<=j))):=opB0 fun _ _ _ _ _ _ _ q=>le_int q
theorem yB6:OpR X (compareOp .Gt) (rI0 fun i j=>.bl (decide (j<i))):=opB0 fun _ _ _ _ _ _ _ q=>gt_int q
theorem yB7:OpR X (compareOp .GtE) (rI0 fun i j=>.bl (decide (j<=i))):=opB0 fun _ _ _ _ _ _ _ q=>ge_int q
theorem nomark (b:Expr) {op:CmpOp}(h:op≠.In:=by decide) (h2:op≠.NotIn:=by decide):behindInMarks op b=false:=by
 have e1:(op == CmpOp.In)=false:=by cases op <;> first|rfl|exact absurd rfl h
 have e2:(op == CmpOp.NotIn)=false:=by cases op <;> first|rfl|exact absurd rfl h2
 cases b <;> simp[behindInMarks,e1,e2]
theorem zVq {op:CmpOp}{r:R2}(ho:OpR X (compareOp op) r) (ha:PE X a ta) (hb:PE X b tb) (hm:behindInMarks op b=false):PE X (.Compare a [op] [b] pos) (tOp r ta tb):=by
 intro pins s σ H Q I h
 exact wpAny_Compare1 (binT ha hb I h fun v u s2 x y H2 I2 rx ry q=>ho pins s2 σ H2 x y v u Q I2 rx ry q) hm
noncomputable def zRb (t:TE):TT:=fun σ H Q=>t σ H fun x H'=>∃k,x=.bl k/\Q k H'
theorem zV8 {op:CmpOp}{r:R2}(ho:OpR X (compareOp op) r) (ha:PE X a ta) (hb:PE X b tb) (hm:behindInMarks op b=false):PT X (.Compare a [op] [b] pos) (zRb (tOp r ta tb)):=by
 intro pins s σ H Q I h
 refine wpAny_isTrue_Compare1 (thn (ha pins s σ H _ I h) fun v s1 ⟨x,H1,I1,r1,q1⟩=>thn (hb pins s1 σ H1 _ I1 q1) fun u s2 ⟨y,H2,I2,r2,q2⟩=>
  thn (ho pins s2 σ H2 x y v u _ I2 r1 r2 q2) fun c s3 ⟨z,H3,I3,r3,k,e,q3⟩=>?_) hm
 subst e
 cases r3
 exact vW ⟨H3,I3,q3⟩
noncomputable def zNz (r r':R2) (ta tb tc:TE):TE:=fun σ H Q=>ta σ H fun x H1=>tb σ H1 fun y H2=>r x y H2 fun z H3=>∃k,z=.bl k /\
 (if k=true then tc σ H3 fun w' H4=>r' y w' H4 Q else Q (.bl false) H3)
theorem zRq {op op':CmpOp}{r r':R2}(ho:OpR X (compareOp op) r) (ho':OpR X (compareOp op') r') (ha:PE X a ta) (hb:PE X b tb) (hc:PE X c tc)
  (hm:lastMarks [op,op'] [b,c]=false:=by with_unfolding_all rfl):PT X (.Compare a [op,op'] [b,c] pos) (zRb (zNz r r' ta tb tc)):=by
 intro pins s σ H Q I h
 refine isTrue_chain (thn (ha pins s σ H _ I h) fun v s1 ⟨x,H1,I1,r1,q1⟩=>test_link (thn (hb pins s1 σ H1 _ I1 q1) fun u s2 ⟨y,H2,I2,r2,q2⟩=>
  thn (ho pins s2 σ H2 x y v u _ I2 r1 r2 q2) fun d s3 ⟨z,H3,I3,r3,k,e,q3⟩=>?_)) hm
 subst e
 cases r3
 refine vW ?_
 cases k with
 | false=>
  obtain⟨k',e',q'⟩:=q3
  cases e'
  exact ite_ff ⟨H3,I3,q'⟩
 | true=>
  refine ite_tt (test_last (thn (hc pins s3 σ H3 _ I3 q3) fun w' s4 ⟨z',H4,I4,r4,q4⟩=>thn (ho' pins s4 σ H4 y z' u w' _ I4 r2 r4 q4) fun d' s5 hq1=>?_))
  obtain⟨z2,H5,I5,r5,k2,e2,q5⟩:=hq1
  subst e2
  cases r5
  exact vW ⟨H5,I5,q5⟩
noncomputable def TruV (K:PySem.W.Frag) (x:V) (H:Hp) (k:Bool):Prop:=
 match x with
 | .non=>k=false
 | .bl b=>k=b
 | .int i=>k=(i != 0)
 | .str y=>y.length<=sizeLine/\k=((y.length:Int) != 0)
 | .byt y=>y.size<=sizeLine/\k=((y.size:Int) != 0)
 | .ref p=>(∃xs,SqL K H p xs/\k=!xs.isEmpty)\/(∃xs,SqT K H p xs/\k=!xs.isEmpty)\/∃kvs,H p=some (.dK kvs)/\k=!kvs.isEmpty
 | _=>False
theorem zN5 {κ:Type}{kvs:List (κ × V)}{vs:List (κ × Value)}(r:KV kvs vs):(!vs.isEmpty)=!kvs.isEmpty:=by
 cases r <;> rfl
theorem zH8 {xs:List V}{its:List Value}(r:Vals xs its):(!its.toArray.isEmpty)=!xs.isEmpty:=by
 cases r <;> simp
theorem line63:(sizeLine:Nat)<2 ^ 63:=by rw[vO];decide
theorem zXq:TruR X (fun x H Q=>∃k,TruV X.K x H k/\Q k H):=by
 intro pins s σ H x v Q I rx h
 obtain⟨k,e,q⟩:=h
 have hl:=line63
 have hs:sizeLine=16777216:=vO
 cases x with
 | non=>
  cases rx
  have e':k=false:=e
  subst e'
  exact truthy_none ⟨H,I,q⟩
 | bl b=>
  cases rx
  have e':k=b:=e
  subst e'
  exact vW ⟨H,I,q⟩
 | int i=>
  obtain⟨t,rfl⟩:=rx
  have e':k=(i != 0):=e
  subst e'
  exact PySem.P.truthy_int ⟨H,I,q⟩
 | str y=>
  obtain⟨t,rfl⟩:=rx
  obtain⟨hy,e'⟩:y.length<=sizeLine/\k=((y.length:Int) != 0):=e
  subst e'
  exact PySem.P.truthy_str (by nofun) ⟨H,I.tok _,q⟩
 | byt y=>
  obtain⟨t,rfl⟩:=rx
  obtain⟨hy,e'⟩:y.size<=sizeLine/\k=((y.size:Int) != 0):=e
  subst e'
  exact PySem.W.truthy_bytes (by nofun) ⟨H,I.tok _,q⟩
 | ref p=>
  cases rx
  have e':(∃xs,SqL X.K H p xs/\k=!xs.isEmpty)\/(∃xs,SqT X.K H p xs/\k=!xs.isEmpty)\/∃kvs,H p=some (.dK kvs)/\k=!kvs.isEmpty:=e
  rcases e' with⟨xs,hx,e'⟩|⟨xs,hx,e'⟩|⟨kvs,hx,e'⟩
  ·subst e'
   obtain⟨its,r,pl,hz⟩:=I.list hx
   have hlen:=r.length
   exact wpAny_truthy_list pl.isList (by simp only[xx];lia) ⟨H,I.tok _,by rw[zH8 r];exact q⟩
  ·subst e'
   obtain⟨its,r,pl,hz⟩:=I.tuple hx
   have hlen:=r.length
   exact truthy_tuple pl (by simp only[xx];lia) ⟨H,I.tok _,by rw[zH8 r];exact q⟩
  ·subst e'
   obtain⟨hz,hS,vs,r,m⟩:kvs.length<=sizeLine/\(p == sysModules)=false/\∃vs,KV kvs vs/\s.heap.DictOf (zBj X.prog X.w) p vs:=I.hok p _ hx
   have hlen:kvs.length=vs.length:=Paired.length r
   exact wpAny_truthy_dict hS m (by nofun) ⟨H,I.tok _,by rw[zN5 r];exact q⟩
 | _=>exact(show False from e).elim
theorem zRo (ha:PE X a ta) (he:∀whole,isTrue a X.env whole=(do let v <- whole;standAt a.pos;holding [v] (truthy v))):
  PT X a (fun σ H Q=>ta σ H fun x H'=>∃k,TruV X.K x H' k/\Q k H'):=by
 intro pins s σ H Q I h
 exact isTrue_plain (thn (ha pins s σ H _ I h) fun v s1 hz4=>by obtain⟨x,H1,I1,r1,q1⟩:=hz4;exact zXq pins s1 σ H1 x v Q I1 r1 q1) (he _)
theorem zMu:OpR X (binaryOp .Add) (fun x y H Q=>∃i j,x=.str i/\y=.str j/\i.length+j.length<=sizeLine/\Q (.str (i++j)) H):=by
 intro pins s σ H x y v u Q I rx ry h
 obtain⟨i,j,rfl,rfl,hz,q⟩:=h
 obtain⟨t,rfl⟩:=rx
 obtain⟨t',rfl⟩:=ry
 exact add_str (fun t' tk=>⟨.str (i++j),H,I.tok _,⟨_,rfl⟩,q⟩) hz
theorem vals1 {x:V}{us:List Value}(r:Vals [x] us):∃u,us=[u]/\RelV x u:=by
 cases r with
 | cons r1 r2=>cases r2;exact⟨_,rfl,r1⟩
theorem vals2 {x y:V}{us:List Value}(r:Vals [x,y] us):∃u w',us=[u,w']/\RelV x u/\RelV y w':=by
 cases r with
 | cons r1 r2=>
  cases r2 with
  | cons r3 r4=>cases r4;exact⟨_,_,rfl,r1,r3⟩
theorem zQs (hc:X.calm=true):zBs X (.builtin "max") (fun xs H Q=>∃i j,xs=[.int i,.int j]/\Q (.int (if j > i then j else i)) H):=by
 intro pins s σ H xs us Q I r h
 obtain⟨i,j,rfl,q⟩:=h
 obtain⟨u,w',rfl,⟨t,rfl⟩,⟨t',rfl⟩⟩:=vals2 r
 refine max_two_ints (I.ok.hd hc) fun h' tk k=>⟨_,H,I.kept k,?_,q⟩
 by_cases hj:j > i
 ·rw[xf hj,xf hj];exact⟨_,rfl⟩
 ·rw[xg hj,xg hj];exact⟨_,rfl⟩
theorem zQr (hc:X.calm=true):zBs X (.builtin "min") (fun xs H Q=>∃i j,xs=[.int i,.int j]/\Q (.int (if j<i then j else i)) H):=by
 intro pins s σ H xs us Q I r h
 obtain⟨i,j,rfl,q⟩:=h
 obtain⟨u,w',rfl,⟨t,rfl⟩,⟨t',rfl⟩⟩:=vals2 r
 refine min_two_ints (I.ok.hd hc) fun h' tk k=>⟨_,H,I.kept k,?_,q⟩
 by_cases hj:j<i
 ·rw[xf hj,xf hj];exact⟨_,rfl⟩
 ·rw[xg hj,xg hj];exact⟨_,rfl⟩
theorem zJs:zBs X (.type "int") (fun xs H Q=>(∃i,xs=[.int i]/\Q (.int i) H)\/∃k,xs=[.bl k]/\Q (.int (if k then 1 else 0)) H):=by
 intro pins s σ H xs us Q I r h
 rcases h with⟨i,rfl,q⟩|⟨k,rfl,q⟩
 ·obtain⟨u,rfl,t,rfl⟩:=vals1 r
  exact call_int_int ⟨.int i,H,I,⟨_,rfl⟩,q⟩
 ·obtain⟨u,rfl,r1⟩:=vals1 r
  cases r1
  exact call_int_bool ⟨.int (if k then 1 else 0),H,I.tok _,⟨_,rfl⟩,q⟩
end
end L2
namespace L2
open PySem PySem.Spec PyProof.Rows
theorem RelO.some_of {v:V}{o:Option Value}(r:RelO (some v) o):∃u,o=some u/\RelV v u:=by
 cases o with
 | none=>exact(show False from r).elim
 | some u=>exact⟨u,rfl,r⟩
end L2
namespace L2
open PySem PySem.Spec PyProof.Rows
structure Room (k:Nat) (A:Around):Prop where
 hd:A.handled=none
 dp:A.depth+3*k+5<recursionLimit
 un:A.units+16*k+200<cLine
theorem Room.mono {j k:Nat}{A:Around}(r:Room k A) (h:j<=k):Room j A:=⟨r.hd,by have:=r.dp;lia,by have:=r.un;lia⟩
theorem Room.deeper {k:Nat}{A:Around}(r:Room (k+1) A) (env:Env):Room k (A.deeper env):=
 ⟨r.hd,by have:=r.dp;show A.depth+1+3*k+5<_;lia,by have:=r.un;show A.units+3+16*k+200<_;lia⟩
theorem Room.depth {k:Nat}{A:Around}(r:Room k A):A.depth<recursionLimit:=by have:=r.dp;lia
theorem Room.units {k:Nat}{A:Around}(r:Room k A):A.units+64<cLine:=by have:=r.un;lia
theorem Room.units0 {k:Nat}{A:Around}(r:Room k A):A.units<cLine:=by have:=r.un;lia
noncomputable def tNil:TA:=fun _ H Q=>Q [] H
noncomputable def zUp (ta:TE) (tr:TA):TA:=fun σ H Q=>ta σ H fun x H1=>tr σ H1 fun xs H2=>Q (x::xs) H2
section
variable {X:Cx}{e:Expr}{es:List Expr}{te:TE}{t:TA}{pos:Pos}
theorem zYx:PA X [] tNil:=fun _ _ _ _ H Q I h=>uU ⟨[],H,I,.nil,h⟩
theorem zVu (ha:PE X e te) (hr:PA X es t) (hs:starEach (e::es) X.env=(false,eval e X.env)::starEach es X.env:=by rfl):PA X (e::es) (zUp te t):=by
 intro pos pins s σ H Q I h
 rw[hs]
 show wpAny _ _ (spliced ((false,eval e X.env)::backTo pos (starEach es X.env))) _ _ s
 refine uV (thn (ha pins s σ H _ I h) fun u s1 hq1=>?_)
 obtain⟨x,H1,I1,r1,q1⟩:=hq1
 exact thn (hr pos pins s1 σ H1 _ I1 q1) fun us s2 hz5=>by obtain⟨xs,H2,I2,r2,q2⟩:=hz5;exact ⟨x::xs,H2,I2,.cons r1 r2,q2⟩
noncomputable def tTup (t:TA):TE:=fun σ H Q=>t σ H fun xs H1=>xs.length<=sizeLine/\∀p,H1 p=none->Q (.ref p) (upd H1 p (.tup xs))
noncomputable def tLst (t:TA):TE:=fun σ H Q=>t σ H fun xs H1=>xs.length<=sizeLine/\∀p,H1 p=none->Q (.ref p) (upd H1 p (.lst xs))
theorem zYm {x1} (h:PA X es t):PE X (.Tuple es x1 pos) (tTup t):=by
 intro pins s σ H Q I hq
 refine wpAny_Tuple_spliced (thn (h pos pins s σ H _ I hq) fun us s1 ⟨xs,H1,I1,r,z,q⟩=>⟨by rw[<- r.length];exact z,?_⟩)
 have hf:H1 s1.heap.objs.size=none:=I1.hok.fresh (xi _)
 refine⟨.ref s1.heap.objs.size,upd H1 s1.heap.objs.size (.tup xs),I1.laid (t':=s1.toks) (fun b u e=>xn _ e) (xi _) ?_,rfl,q _ hf⟩
 exact⟨z,us,r,⟨_,xA _ rfl,rfl,_,rfl⟩⟩
theorem zYq (h:PA X es t):PE X (.List es pos) (tLst t):=by
 intro pins s σ H Q I hq
 refine wpAny_List_spliced (thn (h pos pins s σ H _ I hq) fun us s1 ⟨xs,H1,I1,r,z,q⟩=>⟨by rw[<- r.length];exact z,?_⟩)
 have hf:H1 s1.heap.objs.size=none:=I1.hok.fresh (xi _)
 refine⟨.ref s1.heap.objs.size,upd H1 s1.heap.objs.size (.lst xs),I1.laid (t':=s1.toks) (fun b u e=>xn _ e) (xi _) ?_,rfl,q _ hf⟩
 exact⟨z,us,0,r,xA _ rfl⟩
end
noncomputable abbrev Sp:=List V->Hp->VK->XK->Prop
noncomputable abbrev CXT:=List Env->Hp->Shared->XK->Value->Shared->Prop
structure Env0 (P:Program) (w:World) (K:PySem.W.Frag) (mg:Str->Option Value) (base:Heap) (A:Around) (outer:List Env) (s:Shared) (H:Hp):Prop where
 frames:A.frames=some outer
 mod:Mod K mg base
 bs:∀b o,base.get? b=some o->s.heap.get? b=some o/\H b=none
 bsz:base.objs.size<=s.heap.objs.size
 funs:s.heap.FunFrames base outer
 frf:∀b∈frs outer,H b=none
 hok:HOk P w H s.heap
 bare:AllBare s.gens
noncomputable def CE (outer:List Env) (P:Program) (w:World) (H:Hp) (s:Shared) (Q:VK) (u:Value) (s':Shared):Prop:=
 ∃v H',s'.os=s.os/\AllBare s'.gens/\Un (frs outer) [] H H' s.heap s'.heap/\HOk P w H' s'.heap/\RelV v u/\Q v H'
noncomputable def CR (CX:CXT) (outer:List Env) (P:Program) (w:World) (H:Hp) (s:Shared) (Q:VK) (E:XK) (r:Result) (s':Shared):Prop:=
 match r with
 | .ok (.ret u)=>CE outer P w H s Q u s'
 | .ok _=>False
 | .error e=>CX outer H s E e s'
structure FnOk (P:Program) (w:World) (K:PySem.W.Frag) (mg:Str->Option Value) (base:Heap) (CX:CXT) (k:Nat) (f:Addr) (fd:FuncData) (ps:List Str) (sp:Sp):Prop where
 len:∀vs H Q E,sp vs H Q E->vs.length=ps.length
 run:∀(A:Around) (outer:List Env) (s:Shared) (H:Hp) (args:Args) (us:List Value) (vs:List V) (Q:VK) (E:XK),Room k A->Env0 P w K mg base A outer s H->BindsTo s fd args (ps.zip us)->Vals vs us->sp vs H Q E->
  codeAny (model P w) A (.call (.ref f) args) (CR CX outer P w H s Q E) s
section
variable {X:Cx}{pins:List (Addr × Obj)}{σ:St}{H:Hp}{s s':Shared}
theorem Inv.env0 (I:Inv X pins σ H s):Env0 X.prog X.w X.K X.mg X.base X.A X.stack s H:=
 ⟨I.ok.frames,I.ok.mod,I.bs,xk I.ok.bsz I.sz,I.stack,I.stkFree,I.hok,I.bare⟩
theorem Inv.after {Q:VK}{u:Value}(I:Inv X pins σ H s) (h:CE X.stack X.prog X.w H s Q u s'):EP X pins σ Q u s':=by
 obtain⟨v,H',os,bare,un,hok,r,q⟩:=h
 obtain⟨hh,g,d,t,os'⟩:=s'
 obtain rfl:os'=s.os:=os
 exact⟨v,H',I.call (h':=hh) (g':=g) (d':=d) (t':=t) (ch:=[]) un hok bare (fun b z=>absurd z (by simp)),r,q⟩
end
noncomputable def zRc (sp:Sp) (dvs:List V) (E:XK) (t:TA):TE:=fun σ H Q=>t σ H fun vs H1=>sp (vs++dvs) H1 Q E
noncomputable def Binds (K:PySem.W.Frag) (fd:FuncData) (ps:List Str) (ds:List Value):Prop:=
 ∀(s:Shared) (us:List Value),K.In s.heap->(us++ds).length=ps.length->BindsTo s fd ⟨us,[]⟩ (ps.zip (us++ds))
theorem Binds.all {K:PySem.W.Frag}{fd:FuncData}{ps:List Str}(h:∀us:List Value,us.length=ps.length->bindArgs fd ⟨us,[]⟩=pure (ps.zip us)):Binds K fd ps []:=fun s us _ hl=>by
 rw[v3]at hl ⊢
 exact .of_eq (h us hl)
noncomputable def Passes (CX:CXT) (X:Cx) (E:XK):Prop:=∀(pins:List (Addr × Obj)) (σ:St) (H:Hp) (s:Shared) (e:Value) (s':Shared),Inv X pins σ H s->CX X.stack H s E e s'->X.xe e s'
section
variable {X:Cx}{CX:CXT}{k:Nat}{f C:Addr}{fd:FuncData}{ps:List Str}{sp:Sp}{dvs:List V}{ds:List Value}{E:XK}{x m:Str}{p pos apos:Pos}{e o:Expr}{es:List Expr}{ta:TE}{t:TA}
theorem zY2 {pins:List (Addr × Obj)}{σ:St}{H:Hp}{s:Shared}{Q:VK}{us:List Value}{vs:List V}(F:FnOk X.prog X.w X.K X.mg X.base CX k f fd ps sp) (hr:Room k X.A) (hb:Binds X.K fd ps ds) (hd:Vals dvs ds) (hx:Passes CX X E)
  (I:Inv X pins σ H s) (r:Vals vs us) (h:sp (vs++dvs) H Q E):wpAny (model X.prog X.w) X.A (call (.ref f) us) (EP X pins σ Q) X.xe s:=by
 have r2:Vals (vs++dvs) (us++ds):=r.append hd
 have hl:(us++ds).length=ps.length:=by rw[<- r2.length];exact F.len _ _ _ _ h
 refine wpAny_call (codeAny_mono (F.run X.A X.stack s H ⟨us,[]⟩ (us++ds) (vs++dvs) Q E hr I.env0 (hb s us I.kIn hl) r2 h) fun r s' hq=>?_)
 cases r with
 | error e=>exact hx pins σ H s e s' I hq
 | ok fl=>
  cases fl with
  | ret u=>exact I.after hq
  | next=>exact False.elim hq
  | brk=>exact False.elim hq
  | cont=>exact False.elim hq
theorem zVr (F:FnOk X.prog X.w X.K X.mg X.base CX k f fd ps sp) (hr:Room k X.A) (hg:Gl X x) (hm:X.mg x=some (.ref f)) (hk:PySem.W.keepIn X.K (.ref f)=true) (hb:Binds X.K fd ps ds) (hd:Vals dvs ds) (hx:Passes CX X E)
  (ha:PA X (e::es) t) (hdb:(x == ("__debug__":Str))=false:=by decide) (he:starEach (e::es) X.env=(false,eval e X.env)::starEach es X.env:=by rfl) (hpl:(backTo pos (starEach es X.env)).any (·.1)=false:=by rfl):
  PE X (.Call (.Name x p) (e::es) [] pos) (zRc sp dvs E t):=by
 intro pins s σ H Q I h
 refine uE (zPe I hg hm ?_ hdb)
 refine PySem.W.callWith_K (h₀:=X.base) I.ok.mod.kin hk (thn (ha pos pins s σ H _ I h) fun us s1 ⟨vs,H1,I1,r,q⟩=>⟨I1.kIn,?_⟩) he hpl
 exact zY2 F hr hb hd hx I1 r q
end
structure zB6 (N P:List Str) (sc:Scope):Prop where
 kind:sc.kind=.function
 co:sc.isCoroutine=false
 gen:sc.isGenerator=false
 nd:N.Nodup
 pre:N.take P.length=P
 par:∀x∈P,sc.names.lookup x=some .local\/sc.names.lookup x=some .cell
 nofree:∀y∈sc.names,y.2≠.free
theorem zJu {kindOf:Str->Option NameKind}{x:Str}:∀{binds:List (Str × Value)}{m:Str->Option Value},(∀v,(x,v) ∉ binds)->bindL kindOf binds m x=m x
 | [],_,_=>rfl
 | (n,v)::r,m,h=>by
  unfold bindL
  rw[zJu fun w hw=>h w (vt _ hw)]
  split
  ·have:x≠n:=by rintro rfl;exact h v xQ
   simp[this]
  ·rfl
theorem zJw {kindOf:Str->Option NameKind}{x:Str}:∀{binds:List (Str × Value)}{m:Str->Option Value},(∀v,(x,v) ∉ binds)->bindC kindOf binds m x=m x
 | [],_,_=>rfl
 | (n,v)::r,m,h=>by
  unfold bindC
  rw[zJw fun w hw=>h w (vt _ hw)]
  split
  ·rfl
  ·have:x≠n:=by rintro rfl;exact h v xQ
   simp[this]
theorem zJv {kindOf:Str->Option NameKind}{x:Str}{v:Value}:∀{P:List Str}{vs:List Value}{i:Nat}{m:Str->Option Value},P.Nodup->P[i]?=some x->vs[i]?=some v->kindOf x=some .local->
  bindL kindOf (P.zip vs) m x=some v
 | [],_,_,_,_,h,_,_=>by simp at h
 | _::_,[],_,_,_,_,h,_=>by simp at h
 | p::P,w::vs,0,m,nd,h1,h2,hk=>by
  simp at h1 h2;subst h1;subst h2
  show bindL kindOf ((p,w)::P.zip vs) m p=_
  unfold bindL
  rw[zJu fun v hv=>(vP.mp nd).1 (uW hv).1,xf hk]
  simp
 | p::P,w::vs,i+1,m,nd,h1,h2,hk=>by
  show bindL kindOf ((p,w)::P.zip vs) m x=_
  unfold bindL
  exact zJv (i:=i) (vP.mp nd).2 (by simpa using h1) (by simpa using h2) hk
theorem zJx {kindOf:Str->Option NameKind}{x:Str}{v:Value}:∀{P:List Str}{vs:List Value}{i:Nat}{m:Str->Option Value},P.Nodup->P[i]?=some x->vs[i]?=some v->kindOf x≠some .local->
  bindC kindOf (P.zip vs) m x=some v
 | [],_,_,_,_,h,_,_=>by simp at h
 | _::_,[],_,_,_,_,h,_=>by simp at h
 | p::P,w::vs,0,m,nd,h1,h2,hk=>by
  simp at h1 h2;subst h1;subst h2
  show bindC kindOf ((p,w)::P.zip vs) m p=_
  unfold bindC
  rw[zJw fun v hv=>(vP.mp nd).1 (uW hv).1,xg hk]
  simp
 | p::P,w::vs,i+1,m,nd,h1,h2,hk=>by
  show bindC kindOf ((p,w)::P.zip vs) m x=_
  unfold bindC
  exact zJx (i:=i) (vP.mp nd).2 (by simpa using h1) (by simpa using h2) hk
noncomputable def start (N:List Str) (vs:List V):St:=vs.map some++List.replicate (N.length-vs.length) none
noncomputable def cxOf (CX:CXT) (P:Program) (w:World) (K:PySem.W.Frag) (mg:Str->Option Value) (base:Heap) (N:List Str) (qual:Str) (scope:Scope) (f:Addr) (cd:Value) (A:Around) (outer:List Env) (s:Shared) (H:Hp) (E:XK):Cx where
 prog:=P
 w:=w
 K:=K
 mg:=mg
 base:=base
 A:=A.deeper (envOfC qual scope s.heap.objs.size f cd)
 N:=N
 s₀:=s
 H₀:=H
 env:=envOfC qual scope s.heap.objs.size f cd
 outer:=outer
 stack:=envOfC qual scope s.heap.objs.size f cd::outer
 ex:=[]
 calm:=true
 fn:=fun _=>true
 pn:=[]
 xe:=fun e s'=>wpAny (model P w) (A.deeper (envOfC qual scope s.heap.objs.size f cd)) (leaving (envOfC qual scope s.heap.objs.size f cd) e) (fun _ s''=>CX outer H s E e s'') (fun e' s''=>CX outer H s E e' s'') s'
theorem zMa {sc:Scope}{n:Nat}{x:Str}(h:sc.names.lookup x=some .cell):∃c,(cellsFrom n sc.names []).lookup x=some c:=by
 have q:=PySem.W.cellsFrom_some sc.names n [] (.inl h)
 exact Option.isSome_iff_exists.mp q
theorem zPo {CX:CXT}{P:Program}{w:World}{K:PySem.W.Frag}{mg:Str->Option Value}{base:Heap}{N ps:List Str}{qual:Str}{scope:Scope}{f:Addr}{cd:Value}{A:Around}{outer:List Env}{s s1:Shared}{H:Hp}{E:XK}{us:List Value}{vs:List V}
  (S:zB6 N ps scope) (hd:A.handled=none) (e0:Env0 P w K mg base A outer s H) (hl:vs.length=ps.length) (r:Vals vs us)
  (x:InCallC s s.heap.objs.size (bindL (envOfC qual scope s.heap.objs.size f cd).kindOf (ps.zip us) fun _=>none) (cellsFrom (s.heap.objs.size+1) scope.names []) (bindC (envOfC qual scope s.heap.objs.size f cd).kindOf (ps.zip us) fun _=>none) s1):
  Inv (cxOf CX P w K mg base N qual scope f cd A outer s H E) [] (start N vs) H s1:=by
 have hpl:ps.length<=N.length:=by have:=congrArg List.length S.pre;rw[xU]at this;lia
 obtain⟨h1,tk,rfl,hk⟩:=x.done
 have noA:∀b:Addr,b ∉ (cxOf CX P w K mg base N qual scope f cd A outer s H E).ex:=fun b z=>absurd (show b∈([]:List Addr)from z) (by simp)
 refine⟨⟨e0.mod,S.kind,rfl,rfl,xi _,fun y z c h1 h2=>?_,fun y hy=>?_,fun y c _ h=>?_,fun _=>hd,Around.frames_deeper e0.frames,.inr ⟨rfl,rfl⟩,fun b z=>absurd z (noA b),e0.bs,e0.bsz,fun b _ _=>noA b,fun b z=>absurd z (noA b),e0.funs,e0.frf⟩,
  rfl,e0.bare,Un.kept hk,⟨_,x.toInCall.ns,fun i y v h1 h2 h3=>?_⟩,fun y c h=>⟨_,x.cell y c h⟩,e0.hok.fresh (xi _),fun y c h=>?_,fun p hp=>absurd (show p∈([]:List (Addr × Obj))from hp) (by simp),e0.hok.kept hk,?_⟩
 ·exact name_of_addr x.apart (uX h1) (uX h2)
 ·have hy:scope.names.lookup y=some .cell\/scope.names.lookup y=some .free:=hy
  rcases hy with hy|hy
  ·exact zMa hy
  ·exact absurd rfl (S.nofree _ (uX hy))
 ·exact vM (x.above y c (uX h))
 ·have hi:i<vs.length:=by
   unfold start at h2
   by_cases hi:i<vs.length
   ·exact hi
   ·rw[vQ (by simpa using hi)]at h2
    rw[List.getElem?_replicate]at h2
    split at h2 <;> cases h2
  have ha:vs[i]?=some v:=by
   unfold start at h2
   rw[vv (by simpa using hi),vm]at h2
   cases e:vs[i]? with
   | none=>rw[e]at h2;cases h2
   | some a=>rw[e]at h2;cases h2;rfl
  obtain⟨u,hu,rv⟩:=r.get ha
  have hp:ps[i]?=some y:=by
   rw[<- S.pre,uF (by nofun)];exact h1
  have ndP:ps.Nodup:=by rw[<- S.pre];exact S.nd.sublist (List.take_sublist _ _)
  refine⟨u,rv,?_⟩
  rcases S.par y (v5 hp)with k|k
  ·exact .inl ⟨k,zJv ndP hp hu k⟩
  ·obtain⟨c,e⟩:=zMa (n:=s.heap.objs.size+1) k
   refine .inr ⟨.inl k,c,e,?_⟩
   have q:=x.cell y c e
   rw[zJx ndP hp hu (by show scope.names.lookup y≠_;rw[k];decide)]at q
   exact q
 ·exact e0.hok.fresh (vM (x.above y c (uX h)))
 ·unfold start
  show _=N.length
  rw[xy,xp,ug]
  lia
theorem yBe {CX:CXT}{P:Program}{w:World}{K:PySem.W.Frag}{mg:Str->Option Value}{base:Heap}{k:Nat}{f:Addr}{name qual:Str}{params:Arguments}{body:List Stmt}{scope:Scope}{dV kV doc pm cdv ct oc:Value}{an od:Option Addr}
  {osl:Array (Option Value)}{N ps:List Str}{sp:Sp}(lk:K.lookup f=some ⟨oc,od,.func (PySem.W.fnOf name qual params body scope dV kV doc pm an cdv ct),osl⟩) (hcd:PySem.W.codeIn K cdv qual=true) (S:zB6 N ps scope)
  (len:∀vs H Q E,sp vs H Q E->vs.length=ps.length)
  (hbody:∀(A:Around) (outer:List Env) (s:Shared) (H:Hp) (vs:List V) (Q:VK) (E:XK),Room k (A.deeper (envOfC qual scope s.heap.objs.size f cdv))->sp vs H Q E->
   ∃t,PSs (cxOf CX P w K mg base N qual scope f cdv A outer s H E) body t/\t { nx:=fun _ H'=>Q .non H',rt:=Q } (start N vs) H):
  FnOk P w K mg base CX (k+1) f (PySem.W.fnOf name qual params body scope dV kV doc pm an cdv ct) ps sp:=by
 refine⟨len,fun A outer s H args us vs Q E hr e0 hb r hsp=>?_⟩
 have hl:=len _ _ _ _ hsp
 have KX:K.In s.heap:=e0.mod.kin.keeps fun b o e=>(e0.bs b o e).1
 have lim:s.heap.NoLimit:=e0.mod.nolimit.keeps fun b o e=>(e0.bs b o e).1
 have hkind:∀y∈ps.zip us,scope.names.lookup y.1=some .local\/(scope.names.lookup y.1=some .cell/\((cellsFrom (s.heap.objs.size+1) scope.names []).lookup y.1).isSome=true):=fun⟨n,v⟩ hy=>by
  rcases S.par n (uW hy).1 with q|q
  ·exact .inl q
  ·exact .inr ⟨q,PySem.W.cellsFrom_some _ _ _ (.inl q)⟩
 refine codeAny_call_function hr.depth (KX _ _ lk) rfl S.co S.gen rfl (PySem.W.codeRec_of KX hcd) (hb _ _ _ _ ?_)
 refine wpAny_newFunctionEnv_cells S.kind hkind fun env he s1 x=>?_
 subst he
 refine⟨lim.keeps x.toInCall.keep,codeAny_func ?_⟩
 obtain⟨t,ht,hq⟩:=hbody A outer s H vs Q E (hr.deeper _) hsp
 have I:Inv (cxOf CX P w K mg base N qual scope f cdv A outer s H E) [] (start N vs) H s1:=zPo S hr.hd e0 hl r x
 refine vB (ht [] s1 (start N vs) H _ I hq) (fun fl s' hs=>?_) fun e s' hs=>hs
 have fin:∀{σ':St}{H':Hp}{v:V}{u:Value},Inv (cxOf CX P w K mg base N qual scope f cdv A outer s H E) [] σ' H' s'->RelV v u->Q v H'->CE outer P w H s Q u s':=
  fun {σ' H' v u} J rv q=>⟨v,H',J.os,J.bare,J.base,J.hok,rv,q⟩
 cases fl with
 | ret u=>
  obtain⟨v,σ',H',J,rv,q⟩:=hs
  exact fin J rv q
 | next=>
  obtain⟨σ',H',J,q⟩:=hs
  exact fin (v:=V.non) (u:=Value.none) J rfl q
 | brk=>
  obtain⟨_,_,_,q⟩:=hs
  exact False.elim q
 | cont=>
  obtain⟨_,_,_,q⟩:=hs
  exact False.elim q
end L2
namespace L2
open PySem PySem.Spec PyProof.Rows
section
variable {X:Cx}{x:Str}{p pos:Pos}{e:Expr}{es:List Expr}{t:TA}{id T:String}{r:List V->Hp->VK->Prop}
noncomputable def tCB (r:List V->Hp->VK->Prop) (t:TA):TE:=fun σ H Q=>t σ H fun vs H1=>r vs H1 Q
theorem zS7 (hc:zBs X (.builtin id) r) (hg:Gl X x) (hm:X.mg x=none) (hv:bootBuiltins x=some (.builtin id)) (ha:PA X (e::es) t) (hn:x≠"__name__":=by decide) (hdb:(x == ("__debug__":Str))=false:=by decide)
  (he:starEach (e::es) X.env=(false,eval e X.env)::starEach es X.env:=by rfl) (hpl:(backTo pos (starEach es X.env)).any (·.1)=false:=by rfl):PE X (.Call (.Name x p) (e::es) [] pos) (tCB r t):=by
 intro pins s σ H Q I h
 refine uE (zE3 I hg hm hv ?_ hn hdb)
 exact PyProof.Rows.callWith_builtin1 (thn (ha pos pins s σ H _ I h) fun us s1 hz6=>by obtain⟨vs,H1,I1,r1,q1⟩:=hz6;exact hc pins s1 σ H1 vs us Q I1 r1 q1) he hpl
theorem zOz (hc:zBs X (.type T) r) (hg:Gl X x) (hm:X.mg x=none) (hv:bootBuiltins x=some (.type T)) (ha:PA X (e::es) t) (hn:x≠"__name__":=by decide) (hdb:(x == ("__debug__":Str))=false:=by decide)
  (he:starEach (e::es) X.env=(false,eval e X.env)::starEach es X.env:=by rfl) (hpl:(backTo pos (starEach es X.env)).any (·.1)=false:=by rfl):PE X (.Call (.Name x p) (e::es) [] pos) (tCB r t):=by
 intro pins s σ H Q I h
 refine uE (zE3 I hg hm hv ?_ hn hdb)
 exact uD (thn (ha pos pins s σ H _ I h) fun us s1 hz7=>by obtain⟨vs,H1,I1,r1,q1⟩:=hz7;exact hc pins s1 σ H1 vs us Q I1 r1 q1) he hpl
end
end L2
namespace L2
open PySem PySem.Spec PyProof.Rows
section
variable {κ:Type}[DecidableEq κ]
noncomputable def valV (kvs:List (κ × V)) (k:κ):Option V:=(kvs.find? fun kv=>decide (kv.1=k)).map (·.2)
noncomputable def putK (kvs:List (κ × V)) (k:κ) (v:V):List (κ × V):=
 if(kvs.any fun kv=>decide (kv.1=k))=true then kvs.map (fun kv=>if kv.1=k then(kv.1,v)else kv)else kvs++[(k,v)]
theorem zFb {p:κ × V}{r:List (κ × V)}{k:κ}(e:p.1=k):valV (p::r) k=some p.2:=by simp[valV,uY,e]
theorem zFc {p:κ × V}{r:List (κ × V)}{k:κ}(e:¬ p.1=k):valV (p::r) k=valV r k:=by simp[valV,uY,e]
theorem zL7 (k:κ):∀kvs:List (κ × V),(kvs.any fun kv=>decide (kv.1=k))=(valV kvs k).isSome
 | []=>rfl
 | p::r=>by
  rw[List.any_cons]
  by_cases e:p.1=k
  ·simp only[zFb e,xv e,Bool.true_or,Option.isSome_some]
  ·rw[zFc e,xu e,Bool.false_or];exact zL7 k r
theorem zE9 (kvs:List (κ × V)) (k:κ) (v:V):(putK kvs k v).length<=kvs.length+1:=by
 unfold putK
 split
 ·rw[xp];lia
 ·rw[xy,xE,v7];lia
theorem RelO.isSome_eq {o:Option V}{u:Option Value}(r:RelO o u):o.isSome=u.isSome:=by
 cases o with
 | none=>cases u with
  | none=>rfl
  | some _=>exact(show False from r).elim
 | some _=>cases u with
  | none=>exact(show False from r).elim
  | some _=>rfl
theorem KV.val {kvs:List (κ × V)}{vs:List (κ × Value)}(r:KV kvs vs) (k:κ):RelO (valV kvs k) (valueAt vs k):=by
 unfold KV at r
 induction r with
 | nil=>exact True.intro
 | @cons p q ps qs h t ih=>
  obtain⟨h1,h2⟩:=h
  by_cases e:p.1=k
  ·have e':q.1=k:=h1.symm.trans e
   have b:valueAt (q::qs) k=some q.2:=by simp[valueAt,uY,e']
   rw[zFb e,b];exact h2
  ·have e':¬ q.1=k:=fun z=>e (h1.trans z)
   have b:valueAt (q::qs) k=valueAt qs k:=by simp[valueAt,uY,e']
   rw[zFc e,b];exact ih
theorem KV.any {kvs:List (κ × V)}{vs:List (κ × Value)}(r:KV kvs vs) (k:κ):(kvs.any fun kv=>decide (kv.1=k))=vs.any fun kv=>decide (kv.1=k):=by
 unfold KV at r
 induction r with
 | nil=>rfl
 | cons h t ih=>rw[List.any_cons,List.any_cons,ih,h.1]
theorem KV.repl {kvs:List (κ × V)}{vs:List (κ × Value)}(r:KV kvs vs) (k:κ) {y:V}{u:Value}(ry:RelV y u):
  KV (kvs.map fun kv=>if kv.1=k then(kv.1,y)else kv) (vs.map fun kv=>if kv.1=k then(kv.1,u)else kv):=by
 unfold KV at r ⊢
 induction r with
 | nil=>exact .nil
 | @cons p q ps qs h t ih=>
  rw[xt,xt]
  refine .cons ?_ ih
  obtain⟨h1,h2⟩:=h
  by_cases e:p.1=k
  ·rw[xf e,xf (h1.symm.trans e)];exact⟨h1,ry⟩
  ·rw[xg e,xg (fun z=>e (h1.trans z))];exact⟨h1,h2⟩
theorem KV.put {kvs:List (κ × V)}{vs:List (κ × Value)}(r:KV kvs vs) (k:κ) {y:V}{u:Value}(ry:RelV y u):KV (putK kvs k y) (stored vs k u):=by
 unfold putK stored
 rw[r.any k]
 by_cases e:(vs.any fun kv=>decide (kv.1=k))=true
 ·rw[xf e,xf e];exact r.repl k ry
 ·rw[xg e,xg e];exact Paired.snoc r ⟨rfl,ry⟩
theorem KV.length {kvs:List (κ × V)}{vs:List (κ × Value)}(r:KV kvs vs):kvs.length=vs.length:=Paired.length r
end
theorem zN4 {P:Program}{w:World}{k:Key}{u:Value}(r:RelV (kV k) u):(zBj P w).is k u=true:=by
 cases k with
 | inl i=>obtain⟨t,e⟩:=(show ∃t,u=Value.int i t from r);subst e;exact zKh P w i t
 | inr x=>obtain⟨t,e⟩:=(show ∃t,u=Value.str x t from r);subst e;exact zKg P w x t
theorem zJc {P:Program}{w:World}:∀{ks:List Key}{us:List Value},Vals (ks.map kV) us->ItemsAre (zBj P w) ks us
 | [],_,r=>by rw[vf]at r;cases r;exact .nil
 | k::ks,_,r=>by
  rw[xt]at r
  cases r with
  | cons h t=>exact .cons (zN4 h) (zJc t)
noncomputable abbrev KT (H:Hp):List (List Key × V)->List (List Key × Addr × Value)->Prop:=Paired fun p q=>p.1=q.1/\H q.2.1=some (.tup (p.1.map kV))/\RelV p.2 q.2.2
theorem KT.val {H:Hp}{kvs:List (List Key × V)}{xs:List (List Key × Addr × Value)}(r:KT H kvs xs) (k:List Key):RelO (valV kvs k) ((atKey xs k).map (·.2)):=by
 induction r with
 | nil=>exact True.intro
 | @cons p q ps qs h t ih=>
  obtain⟨h1,_,h2⟩:=h
  by_cases e:p.1=k
  ·have e':q.1=k:=h1.symm.trans e
   have b:atKey (q::qs) k=some q.2:=by simp[atKey,uY,e']
   rw[zFb e,b];exact h2
  ·have e':¬ q.1=k:=fun z=>e (h1.trans z)
   have b:atKey (q::qs) k=atKey qs k:=by simp[atKey,uY,e']
   rw[zFc e,b];exact ih
theorem KT.repl {H:Hp}{kvs:List (List Key × V)}{xs:List (List Key × Addr × Value)}(r:KT H kvs xs) (k:List Key) {y:V}{u:Value}(ry:RelV y u):
  KT H (kvs.map fun kv=>if kv.1=k then(kv.1,y)else kv) (xs.map (putAt k u)):=by
 induction r with
 | nil=>exact .nil
 | @cons p q ps qs h t ih=>
  rw[xt,xt]
  refine .cons ?_ ih
  obtain⟨h1,h2,h3⟩:=h
  unfold putAt
  by_cases e:p.1=k
  ·rw[xf e,xf (h1.symm.trans e)];exact⟨h1,h2,ry⟩
  ·rw[xg e,xg (fun z=>e (h1.trans z))];exact⟨h1,h2,h3⟩
theorem KT.put {H:Hp}{kvs:List (List Key × V)}{xs:List (List Key × Addr × Value)}(r:KT H kvs xs) (k:List Key) {b:Addr}{y:V}{u:Value}(hb:H b=some (.tup (k.map kV))) (ry:RelV y u):
  KT H (putK kvs k y) (storedH xs k b u):=by
 have e:(kvs.any fun kv=>decide (kv.1=k))=(atKey xs k).isSome:=by
  rw[zL7,(r.val k).isSome_eq,Option.isSome_map]
 unfold putK storedH
 rw[e]
 by_cases q:(atKey xs k).isSome=true
 ·rw[xf q,xf q];exact r.repl k ry
 ·rw[xg q,xg q];exact Paired.snoc r ⟨rfl,hb,ry⟩
section
variable {P:Program}{w:World}{H:Hp}{h:Heap}{a:Addr}
theorem zY3 {u:HO}(ok:HOk P w H h) (e:Rd H a u):ObjOk P w H h a u:=e.ok ok
theorem zNd {kvs:List (Key × V)}(ok:HOk P w H h) (e:Rd H a (.dK kvs)):kvs.length<=sizeLine/\(a == sysModules)=false/\∃vs,KV kvs vs/\h.DictOf (zBj P w) a vs:=
 show ObjOk P w H h a (.dK kvs)from zY3 ok e
theorem zZw {kvs:List (Key × V)}(ok:HOk P w H h) (e:H a=some (.dK kvs)):kvs.length<=sizeLine/\(a == sysModules)=false/\∃vs,KV kvs vs/\h.DictOf (zBj P w) a vs:=zNd ok (.inl e)
theorem zH4 {ks:List Key}(ok:HOk P w H h) (e:H a=some (.tup (ks.map kV))):(tupleKind (zBj P w)).is h ks a:=by
 obtain⟨_,its,r,o,h1,h2,n,h3⟩:=(show ObjOk P w H h a (.tup (ks.map kV))from ok a _ e)
 exact⟨o,its.toArray,n,h1,h2,h3,by simpa using zJc r⟩
theorem zQ3 {kvs:List (List Key × V)}(ok:HOk P w H h) (e:Rd H a (.dT kvs)):kvs.length<=sizeLine/\(a == sysModules)=false /\
  ∃xs,KT H kvs xs/\h.DictOfH (tupleKind (zBj P w)) a xs:=by
 obtain⟨z,y,xs,r,o,es,ep,h1,h2,h3,h4,h5⟩:=(show ObjOk P w H h a (.dT kvs)from zY3 ok e)
 refine⟨z,y,xs,r,o,es,ep,h1,h2,h3,h4,fun x hx=>?_,h5⟩
 have all:∀{l:List (List Key × V)}{m:List (List Key × Addr × Value)},KT H l m->∀x∈m,(tupleKind (zBj P w)).is h x.1 x.2.1:=by
  intro l m q
  induction q with
  | nil=>intro x hx;exact nomatch hx
  | @cons p q ps qs hq t ih=>
   intro x hx
   rcases xm.mp hx with e|hx
   ·subst e
    exact zH4 ok (by rw[<- hq.1];exact hq.2.1)
   ·exact ih x hx
 exact all r x hx
end
noncomputable def DGet (H:Hp) (a:Addr) (y:V) (r:Option V):Prop:=
 (∃kvs k,Rd H a (.dK kvs)/\y=kV k/\r=valV kvs k)\/∃kvs k b,Rd H a (.dT kvs)/\y=.ref b/\H b=some (.tup (k.map kV))/\r=valV kvs k
section
variable {X:Cx}{pins:List (Addr × Obj)}{σ:St}{H:Hp}{s:Shared}{a:Addr}{y v:V}{u r:Value}{o:Option V}{A:Around}{E:Value->Shared->Prop}
theorem Inv.big (I:Inv X pins σ H s):sysModules<s.heap.objs.size:=by
 have h:mainGlobals<s.heap.objs.size:=(I.mod.glob.keeps I.bk).lt
 exact vH (by decide) h
theorem zQe {Q:Value->Shared->Prop}(hu:A.units+1<cLine) (I:Inv X pins σ H s) (g:DGet H a y (some v)) (ry:RelV y u) (h:∀w' s',Inv X pins σ H s'->RelV v w'->Q w' s'):
  wpAny (model X.prog X.w) A (getItem (.ref a) u) Q E s:=by
 rcases g with⟨kvs,k,e,ey,l⟩|⟨kvs,k,b,e,ey,eb,l⟩
 ·subst ey
  obtain⟨z,hd,vs,rel,dd⟩:=zNd I.hok e
  obtain⟨w',hw,rw'⟩:=RelO.some_of (v:=v) (o:=valueAt vs k) (by rw[l];exact rel.val k)
  exact wpAny_getItem_of (zN4 ry) dd.mapOf hw (h w' _ (I.tok _) rw')
 ·subst ey
  cases(show u=Value.ref b from ry)
  obtain⟨z,hd,xs,rel,dd⟩:=zQ3 I.hok e
  obtain⟨w',hw,rw'⟩:=RelO.some_of (v:=v) (o:=(atKey xs k).map (·.2)) (by rw[l];exact rel.val k)
  obtain⟨p,hp,hp2⟩:=yD.mp hw
  refine wpAny_getItem_heap (tupleKind_room_in1 hu) (zH4 I.hok eb) dd hp ?_
  rw[hp2]
  exact h w' _ (I.tok _) rw'
theorem d_in {Q:Value->Shared->Prop}(hu:A.units+1<cLine) (I:Inv X pins σ H s) (g:DGet H a y o) (ry:RelV y u) (h:∀s',Inv X pins σ H s'->Q (.bool o.isSome) s'):
  wpAny (model X.prog X.w) A (compareOp .In u (.ref a)) Q E s:=by
 rcases g with⟨kvs,k,e,ey,l⟩|⟨kvs,k,b,e,ey,eb,l⟩
 ·subst ey
  obtain⟨z,hd,vs,rel,dd⟩:=zNd I.hok e
  refine wpAny_in_of (zN4 ry) hd dd.mapOf ?_
  rw[<- (rel.val k).isSome_eq,<- l]
  exact h _ (I.tok _)
 ·subst ey
  cases(show u=Value.ref b from ry)
  obtain⟨z,hd,xs,rel,dd⟩:=zQ3 I.hok e
  refine wpAny_in_heap (tupleKind_room_in1 hu) (zH4 I.hok eb) hd dd ?_
  have q:=(rel.val k).isSome_eq
  rw[Option.isSome_map]at q
  rw[<- q,<- l]
  exact h _ (I.tok _)
theorem zQd {Q:Value->Shared->Prop}(hu:A.units+1<cLine) (I:Inv X pins σ H s) (g:DGet H a y o) (ry:RelV y u) (h:∀s',Inv X pins σ H s'->Q (.bool (!o.isSome)) s'):
  wpAny (model X.prog X.w) A (compareOp .NotIn u (.ref a)) Q E s:=by
 rcases g with⟨kvs,k,e,ey,l⟩|⟨kvs,k,b,e,ey,eb,l⟩
 ·subst ey
  obtain⟨z,hd,vs,rel,dd⟩:=zNd I.hok e
  refine wpAny_notIn_of (zN4 ry) hd dd.mapOf ?_
  rw[<- (rel.val k).isSome_eq,<- l]
  exact h _ (I.tok _)
 ·subst ey
  cases(show u=Value.ref b from ry)
  obtain⟨z,hd,xs,rel,dd⟩:=zQ3 I.hok e
  refine wpAny_notIn_heap (tupleKind_room_in1 hu) (zH4 I.hok eb) hd dd ?_
  have q:=(rel.val k).isSome_eq
  rw[Option.isSome_map]at q
  rw[<- q,<- l]
  exact h _ (I.tok _)
theorem zQc {h':Heap}{t':Nat}{ob:HO}(I:Inv X pins σ H s) (mu:Mut (H a)) (hs:Heap.SameBut a s.heap h') (he:∃q,h'.get? a=some q) (new:ObjOk X.prog X.w (upd H a ob) h' a ob):
  Inv X pins σ (upd H a ob) { s with heap:=h',toks:=t' }:=
 I.write (x:=a) (e:=a) mu (.inl rfl) (fun b q hb z=>(hs.2 b hb).trans z) he new
theorem zU9 {P:Program}{w:World}{H':Hp}{h':Heap}{kvs:List (Key × V)}{vs:List (Key × Value)}(z:kvs.length<=sizeLine) (hd:(a == sysModules)=false) (rel:KV kvs vs) (dd:h'.DictOf (zBj P w) a vs):
  ObjOk P w H' h' a (.dK kvs):=⟨z,hd,vs,rel,dd⟩
end
section
variable {X:Cx}{pins:List (Addr × Obj)}{σ:St}{H:Hp}{s:Shared}{a:Addr}{kvs:List (Key × V)}{k:Key}{u:Value}{A:Around}{E:Value->Shared->Prop}
theorem yBq {Q:Value->Shared->Prop}(I:Inv X pins σ H s) (e:Rd H a (.dK kvs)) (h:∀t s',Inv X pins σ H s'->Q (.int kvs.length t) s'):wpAny (model X.prog X.w) A (call (.builtin "len") [.ref a]) Q E s:=by
 obtain⟨z,hd,vs,rel,dd⟩:=zNd I.hok e
 refine call_len_dict hd dd (by rw[<- rel.length];rw[vO]at z;lia) ?_
 rw[<- rel.length]
 exact h _ _ (I.tok _)
end
theorem zKw {X:Cx}{pins:List (Addr × Obj)}{σ:St}{H:Hp}{s:Shared}{a:Addr}{y:V}{o:Option V}(I:Inv X pins σ H s) (g:DGet H a y o):s.TypeIs (.ref a) "dict":=by
 rcases g with⟨kvs,k,e,_,_⟩|⟨kvs,k,b,e,_,_,_⟩
 ·obtain⟨_,_,vs,_,dd⟩:=zNd I.hok e
  exact dd.typeIs
 ·obtain⟨_,_,xs,_,dd⟩:=zQ3 I.hok e
  exact dd.typeIs
theorem zT5 {P:Program}{w:World}{H:Hp}(h:Heap) (hb:sysModules<h.objs.size):ObjOk P w H (h.push { cls:=.type "dict",data:=.dict #[] }) h.objs.size (.dK []):=
 ⟨xR _,beq_eq_false_iff_ne.mpr (xw (xr hb)),[],.nil,Heap.DictOf.new h⟩
noncomputable def zLa:List (TE × TE)->St->Hp->(List (V × V)->Hp->Prop)->Prop
 | [],_,H,Q=>Q [] H
 | (tk,tv)::r,σ,H,Q=>tk σ H fun x H1=>tv σ H1 fun y H2=>zLa r σ H2 fun ps H3=>Q ((x,y)::ps) H3
noncomputable abbrev VV:List (V × V)->List (Value × Value)->Prop:=Paired fun p q=>RelV p.1 q.1/\RelV p.2 q.2
noncomputable def PPs (X:Cx) (pos:Pos) (keys:List (Option Expr)) (values:List Expr) (trs:List (TE × TE)):Prop:=
 ∀(pins:List (Addr × Obj)) (s:Shared) (σ:St) (H:Hp) (Q:List (V × V)->Hp->Prop),Inv X pins σ H s->zLa trs σ H Q->
  wpAny (model X.prog X.w) X.A (evalPairs (pairTrees keys values X.env pos)) (fun vs s'=>∃ps H',Inv X pins σ H' s'/\VV ps vs/\Q ps H') X.xe s
theorem zVe {X:Cx}{pos:Pos}:PPs X pos [] [] []:=fun pins s σ H Q I h=>pairTrees_nil_walk ⟨[],H,I,.nil,h⟩
theorem zRv {X:Cx}{pos:Pos}{k v:Expr}{ks:List (Option Expr)}{vs:List Expr}{tk tv:TE}{trs:List (TE × TE)}(hk:PE X k tk) (hv:PE X v tv) (hr:PPs X pos ks vs trs):
  PPs X pos (some k::ks) (v::vs) ((tk,tv)::trs):=fun pins s σ H Q I h=>
 pairTrees_cons_walk (thn (hk pins s σ H _ I h) fun u s1 ⟨x,H1,I1,rx,q1⟩=>thn (hv pins s1 σ H1 _ I1 q1) fun w2 s2 ⟨y,H2,I2,ry,q2⟩=>
  thn (hr pins s2 σ H2 _ I2 q2) fun ws s3 hz8=>by obtain⟨ps,H3,I3,rel,q3⟩:=hz8;exact ⟨(x,y)::ps,H3,I3,.cons ⟨rx,ry⟩ rel,q3⟩)
noncomputable def zF2 (kvs more:List (Key × V)):List (Key × V):=more.foldl (fun acc kv=>putK acc kv.1 kv.2) kvs
theorem KV.merge:∀{more:List (Key × V)}{rs:List (Key × Value)}{kvs:List (Key × V)}{vs:List (Key × Value)},KV more rs->KV kvs vs->KV (zF2 kvs more) (merged vs rs):=by
 intro more rs kvs vs r
 unfold KV at r
 induction r generalizing kvs vs with
 | nil=>intro q;exact q
 | @cons p q ps qs h t ih=>
  intro r0
  have e:KV (putK kvs p.1 p.2) (stored vs q.1 q.2):=by
   have:=r0.put p.1 h.2
   rw[<- h.1];exact this
  exact ih e
theorem zEh:∀(more kvs:List (Key × V)),(zF2 kvs more).length<=kvs.length+more.length
 | [],kvs=>by show kvs.length<=kvs.length+0;lia
 | p::r,kvs=>by
  have h1:=zEh r (putK kvs p.1 p.2)
  have h2:=zE9 kvs p.1 p.2
  show(zF2 (putK kvs p.1 p.2) r).length<=_
  rw[xE];lia
theorem zHe {P:Program}{w:World}:∀{kvs:List (Key × V)}{ws:List (Value × Value)},VV (kvs.map fun kv=>(kV kv.1,kv.2)) ws->∃rs,Carries (zBj P w) ws rs/\KV kvs rs
 | [],_,r=>by rw[vf]at r;cases r;exact⟨[],True.intro,.nil⟩
 | p::kvs,_,r=>by
  rw[xt]at r
  cases r with
  | @cons a b as bs h t=>
   obtain⟨rs,c,q⟩:=zHe (P:=P) (w:=w) t
   obtain⟨b1,b2⟩:=b
   exact⟨(p.1,b2)::rs,⟨zN4 h.1,rfl,c⟩,.cons ⟨rfl,h.2⟩ q⟩
noncomputable def zXu (trs:List (TE × TE)):TE:=fun σ H Q=>∀p,H p=none->zLa trs σ (upd H p (.dK [])) fun ps H2=>H2 p=some (.dK [])/\∃kvs:List (Key × V),ps=kvs.map (fun kv=>(kV kv.1,kv.2))/\kvs.length<=15/\Q (.ref p) (upd H2 p (.dK (zF2 [] kvs)))
theorem zVp {X:Cx}{pos:Pos}{keys:List (Option Expr)}{values:List Expr}{trs:List (TE × TE)}(h:PPs X pos keys values trs) (hall:keys.all (·.isSome)=true) (hl:keys.length=values.length) (h0:keys≠[])
  (h15:keys.length<=15):PE X (.Dict keys values pos) (zXu trs):=by
 intro pins s σ H Q I q
 have hn:=I.hok.fresh (xi s.heap.objs.size)
 have I1:=I.laid (a:=s.heap.objs.size) (o:=.dK []) (h':=s.heap.push { cls:=.type "dict",data:=.dict #[] }) (t':=s.toks) (fun _ _ q=>xn _ q) (xi _) (zT5 s.heap I.big)
 refine wpAny_Dict_walk (knd:=zBj X.prog X.w) hall hl h0 h15 (thn (h pins _ σ _ _ I1 (q _ hn)) fun ws s2 hq1=>?_)
 obtain⟨ps,H2,I2,rel,e,kvs,ep,lk,q2⟩:=hq1
 subst ep
 obtain⟨rs,c,rk⟩:=zHe (P:=X.prog) (w:=X.w) rel
 obtain⟨z,hd,vs0,r0,dd⟩:=zZw I2.hok e
 cases r0
 refine⟨rs,c,dd,fun h' dd' hs=>⟨.ref s.heap.objs.size,_,?_,rfl,q2⟩⟩
 have hz:(zF2 [] kvs).length<=sizeLine:=by
  have h1:=zEh kvs []
  rw[v7]at h1
  rw[vO];lia
 have he:∃q,h'.get? s.heap.objs.size=some q:=let ⟨q,_,_,hq,_⟩:=dd';⟨q,hq⟩
 exact zQc I2 (by rw[e];exact True.intro) hs he (zU9 hz hd (rk.merge .nil) dd')
end L2
namespace HT
open PySem PyProof.Rows
section
open PySem.SeqAt
open PySem.AutoSeq1 (wpAny_loadPart')
open PySem.MeetsSeq PySem.MeetsSeq2 PySem.MeetsSeq3
end
section
variable {prog:Program}{w:World}{A:Around}{E:Value->Shared->Prop}{s:Shared}
theorem cat_tup {t b:Addr}{vs ws:List Value}{Q:Value->Shared->Prop}(ht:IsTup s.heap t vs.toArray) (hb:IsTup s.heap b ws.toArray) (hv:vs≠[])
  (h1:ws=[]->Q (.ref t) s) (h2:ws≠[]->Q (.ref s.heap.objs.size) { s with heap:=s.heap.push { cls:=.type "tuple",data:=.seq (vs++ws).toArray } })
  (hsz:vs.length+ws.length<=sizeLine):wpAny (model prog w) A (binaryOp .Add (.ref t) (.ref b)) Q E s:=by
 obtain⟨⟨cls,dd,data,sl⟩,ho,hc,n,hd⟩:=id ht
 obtain⟨⟨cls2,dd2,data2,sl2⟩,ho2,hc2,n2,hd2⟩:=id hb
 simp only at hc hd hc2 hd2
 subst hc hd hc2 hd2
 have e:vs.toArray++ws.toArray=(vs++ws).toArray:=by simp
 by_cases hw:ws=[]
 ·exact concat_meets ⟨_,ho,rfl⟩ ⟨_,ho2,rfl⟩ noFill_tuple_add seq_tuple_add PySem.F.slot_tuple_add PySem.F.entry_tuple_add (PySem.F.args_tuple_add_2 _ _)
   (tuple_addW1 t b vs.toArray ws.toArray n n2 dd dd2 sl sl2 (by simpa using hv) (by simp[hw])) ⟨ho,ho2,h1 hw⟩
 ·refine concat_meets ⟨_,ho,rfl⟩ ⟨_,ho2,rfl⟩ noFill_tuple_add seq_tuple_add PySem.F.slot_tuple_add PySem.F.entry_tuple_add (PySem.F.args_tuple_add_2 _ _)
   (tuple_addW2 t b vs.toArray ws.toArray n n2 dd dd2 sl sl2 (by simpa using hv) (by simpa using hw) (by rw[xx,xx];exact hsz)) ⟨ho,ho2,?_⟩
  rw[e]
  exact h2 hw
noncomputable def sIx (n d:Nat):Option Int->Nat
 | none=>d
 | some v=>if v<0 then(v+(n:Int)).toNat else min v.toNat n
theorem zY1 (n d:Nat) (hd:d<=n) (o:Option Int):sIx n d o<=n:=by
 cases o with
 | none=>exact hd
 | some v=>
  show(if v<0 then(v+(n:Int)).toNat else min v.toNat n)<=n
  by_cases hv:v<0
  ·rw[xf hv];lia
  ·rw[xg hv];exact Nat.min_le_right _ _
theorem zQk (v:Int) (n d:Nat):(if v<0 then max (v+(n:Int)) 0 else min v (n:Int))=((sIx n d (some v):Nat):Int):=by
 show(if v<0 then max (v+(n:Int)) 0 else min v (n:Int))=(((if v<0 then(v+(n:Int)).toNat else min v.toNat n):Nat):Int)
 by_cases hv:v<0
 ·simp only[xf hv];lia
 ·simp only[xg hv];lia
theorem zNp (lo hi:Option Int) (n:Nat):Builtin.Slice.sliceAdjust lo hi 1 (n:Int)=(((sIx n 0 lo:Nat):Int),((sIx n n hi:Nat):Int)):=by
 have h1:¬ ((1:Int)<0):=by nofun
 unfold Builtin.Slice.sliceAdjust
 simp only[h1,xV]
 refine Prod.ext ?_ ?_
 ·cases lo with
  | none=>rfl
  | some v=>exact zQk v n 0
 ·cases hi with
  | none=>rfl
  | some v=>exact zQk v n n
theorem zMs (i j:Nat):Builtin.Slice.slicePlaces (i:Int) (j:Int) 1=j-i:=by
 unfold Builtin.Slice.slicePlaces
 have h1:(1:Int) > 0:=by nofun
 simp only[h1,xj,Int.ediv_one]
 split <;> lia
theorem slicePart_ {v:Value}{o:Option Int}{Q:Option Int->Shared->Prop}(p:IsPart v o) (h:Q o s):wpAny (model prog w) A (Builtin.Slice.slicePartIndex v) Q E s:=by
 cases p with
 | none=>exact slicePart_none h
 | int i t=>exact slicePart_int h
theorem sliceApplied_gen {sl:Addr}{vl vu:Value}{lo hi:Option Int}{n:Nat}{Q:Int × Int × Nat->Shared->Prop}(hs:s.heap.IsSliceOf sl vl vu .none) (pl:IsPart vl lo) (pu:IsPart vu hi)
  (h:Q (((sIx n 0 lo:Nat):Int),1,sIx n n hi-sIx n 0 lo) s):wpAny (model prog w) A (Builtin.Slice.sliceApplied (.ref sl) (pure (n:Int))) Q E s:=by
 obtain⟨os,hos,hcs,hds⟩:=id hs
 unfold Builtin.Slice.sliceApplied Builtin.Slice.sliceFields
 refine xa (xa (xS hos hds (x:=vl) rfl (xa (xS hos hds (x:=vu) rfl (xa (xS hos hds (x:=.none) rfl (xh ?_)))))))
 refine xa (slicePart_none ?_)
 show wpAny _ _ (if((1:Int) == 0)=true then _ else _) _ _ s
 rw[xg (by decide)]
 refine xa (slicePart_ pl (xa (slicePart_ pu (xa (xh ?_)))))
 show wpAny _ _ (match Builtin.Slice.sliceAdjust lo hi 1 (n:Int)with|(lo,hi)=>pure (lo,(1:Int),Builtin.Slice.slicePlaces lo hi 1)) _ _ s
 rw[zNp lo hi n]
 show wpAny _ _ (pure (((sIx n 0 lo:Nat):Int),(1:Int),Builtin.Slice.slicePlaces ((sIx n 0 lo:Nat):Int) ((sIx n n hi:Nat):Int) 1)) _ _ s
 rw[zMs]
 exact xh h
theorem zS0 (xs:Array Value) (i k:Nat):((List.range k).filterMap fun(m:Nat)=>xs[((i:Int)+(m:Int)*1).toNat]?).toArray=((xs.toList.drop i).take k).toArray:=by
 have e:(fun(m:Nat)=>xs[((i:Int)+(m:Int)*1).toNat]?)=fun m=>xs[i+m]?:=by
  funext m
  have:((i:Int)+(m:Int)*1).toNat=i+m:=by nofun
  rw[this]
 rw[e]
 have:=pick_run xs i k
 rw[List.filterMap_map]at this
 have e2:((fun x=>xs[x]?) ∘ fun x=>i+x)=fun m=>xs[i+m]?:=rfl
 rw[e2]at this
 rw[this]
theorem getItem_tuple_cut {t sl:Addr}{items:Array Value}{vl vu:Value}{lo hi:Option Int}{Q:Value->Shared->Prop}(ht:IsTup s.heap t items) (hs:s.heap.IsSliceOf sl vl vu .none) (pl:IsPart vl lo) (pu:IsPart vu hi)
  (hw:¬ (sIx items.size 0 lo=0/\sIx items.size items.size hi=items.size))
  (h:Q (.ref s.heap.objs.size) { s with heap:=s.heap.push { cls:=.type "tuple",data:=.seq ((items.toList.drop (sIx items.size 0 lo)).take (sIx items.size items.size hi-sIx items.size 0 lo)).toArray } })
  (hsz:items.size<=sizeLine):wpAny (model prog w) A (getItem (.ref t) (.ref sl)) Q E s:=by
 have htake:sizeOk (.seq ((items.toList.drop (sIx items.size 0 lo)).take (sIx items.size items.size hi-sIx items.size 0 lo)).toArray):=by
  show((items.toList.drop (sIx items.size 0 lo)).take (sIx items.size items.size hi-sIx items.size 0 lo)).toArray.size<=sizeLine
  rw[xx,xU,vg,uB]
  lia
 have hj:sIx items.size items.size hi<=items.size:=zY1 _ _ (xi _) hi
 obtain⟨os,hos,hcs,hds⟩:=id hs
 have hTs:s.TypeIs (.ref sl) "slice":=⟨os,hos,hcs⟩
 unfold getItem
 try with_reducible refine xK ?_
 first|refine xa (xh ?_)|skip
 refine xa (wpAny_sequenceKey ht.typeIs (by decide) ?_)
 refine xa (vR (name:=Str.ofString "__getitem__") ht.typeIs vX
  (vh vX ht.typeIs entry_tuple_getitem ?_ (args_tuple_getitem _ _)))
 show wpAny _ _ (Builtin.Tuple.tupleItemsOf (.ref t) >>= _) _ _ s
 refine xa (tupleItemsOf_ ht ?_)
 refine xa (vY hTs ?_)
 rw[xf (by decide)]
 refine xa (sliceApplied_gen hs pl pu ?_)
 have hno:¬ ((((sIx items.size 0 lo:Nat):Int) == 0 && (1:Int) == 1 && (sIx items.size items.size hi-sIx items.size 0 lo) == items.size)=true):=by
  intro q
  rw[xM,xM]at q
  have q1:((sIx items.size 0 lo:Nat):Int)=0:=eq_of_beq q.1.1
  have q2:sIx items.size items.size hi-sIx items.size 0 lo=items.size:=eq_of_beq q.2
  exact hw ⟨by nofun,by nofun⟩
 show wpAny _ _ (if(((sIx items.size 0 lo:Nat):Int) == 0 && (1:Int) == 1 && (sIx items.size items.size hi-sIx items.size 0 lo) == items.size)=true then _ else _) _ _ s
 rw[xg hno,zS0]
 first
  | exact xa (m:=Builtin.Tuple.tupleExact _) (vk (xh ⟨_,rfl,xh h⟩) htake)
  | exact xa (m:=Builtin.Tuple.tupleExact _) (vk (xa (xh (xh ⟨_,rfl,xh h⟩))) htake)
  | exact xa (xa (m:=Builtin.Tuple.tupleExact _) (vk (xh (xh ⟨_,rfl,xh h⟩)) htake))
  | exact xa (xa (m:=Builtin.Tuple.tupleExact _) (vk (xh ⟨_,rfl,xh h⟩) htake))
end
end HT
namespace L2
open PySem PySem.Spec PyProof.Rows
noncomputable abbrev TO:=St->Hp->(Option Int->Hp->Prop)->Prop
noncomputable def PO (X:Cx) (e:Option Expr) (t:TO):Prop:=
 ∀(pins:List (Addr × Obj)) (s:Shared) (σ:St) (H:Hp) (Q:Option Int->Hp->Prop),Inv X pins σ H s->t σ H Q->
  wpAny (model X.prog X.w) X.A (evalPart e X.env) (fun u s'=>∃o H',Inv X pins σ H' s'/\IsPart u o/\Q o H') X.xe s
noncomputable def zNy:TO:=fun _ H Q=>Q none H
noncomputable def zXs (t:TE):TO:=fun σ H Q=>t σ H fun x H1=>∃i,x=.int i/\Q (some i) H1
section
variable {X:Cx}{e:Expr}{te:TE}{lo hi:Option Expr}{tl th:TO}{pos p2:Pos}
theorem zVg:PO X none zNy:=by
 intro pins s σ H Q I h
 rw[evalPart_none]
 exact xh ⟨none,H,I,.none,h⟩
theorem zVf (h:PE X e te):PO X (some e) (zXs te):=by
 intro pins s σ H Q I hw
 rw[evalPart_some]
 refine thn (h pins s σ H _ I hw) fun u s1 hq1=>?_
 obtain⟨x,H1,I1,r1,q1⟩:=hq1
 obtain⟨i,rfl,q⟩:=q1
 obtain⟨t,rfl⟩:=r1
 exact⟨some i,H1,I1,.int i t,q⟩
noncomputable def SlR (X:Cx) (r:V->Option Int->Option Int->Hp->VK->Prop):Prop:=
 ∀(pins:List (Addr × Obj)) (s:Shared) (σ:St) (H:Hp) (x:V) (v vl vu:Value) (lo hi:Option Int) (sl:Addr) (Q:VK),Inv X pins σ H s->RelV x v->s.heap.IsSliceOf sl vl vu .none->IsPart vl lo->IsPart vu hi->r x lo hi H Q->
  ∃T id,typeLookup (.type T) "__getitem__"=pure (some (.builtin id))/\s.TypeIs v T/\wpAny (model X.prog X.w) X.A (getItem v (.ref sl)) (EP X pins σ Q) X.xe s
noncomputable def tSl (r:V->Option Int->Option Int->Hp->VK->Prop) (te:TE) (tl th:TO):TE:=fun σ H Q=>te σ H fun x H1=>tl σ H1 fun l H2=>th σ H2 fun u H3=>r x l u H3 Q
theorem zS3 {r:V->Option Int->Option Int->Hp->VK->Prop}(hr:SlR X r) (he:PE X e te) (hl:PO X lo tl) (hu:PO X hi th):PE X (.Subscript e (.Slice lo hi none p2) pos) (tSl r te tl th):=by
 intro pins s σ H Q I h
 refine Subscript_ (thn (he pins s σ H _ I h) fun v s1 hq1=>?_)
 obtain⟨x,H1,I1,r1,q1⟩:=hq1
 refine wpAny_Slice (thn (hl pins s1 σ H1 _ I1 q1) fun vl s2 ⟨l,H2,I2,pl,q2⟩=>thn (hu pins s2 σ H2 _ I2 q2) fun vu s3 hq1=>?_)
 obtain⟨u,H3,I3,pu,q3⟩:=hq1
 rw[evalPart_none]
 refine xh ?_
 have I4:Inv X pins σ H3 { s3 with heap:=s3.heap.push { cls:=.type "slice",data:=.fields #[vl,vu,.none] } }:=I3.kept (t':=s3.toks) fun b ob q=>xn _ q
 obtain⟨T,id,hT,ht,hg⟩:=hr pins { s3 with heap:=s3.heap.push { cls:=.type "slice",data:=.fields #[vl,vu,.none] } } σ H3 x v vl vu l u s3.heap.objs.size Q I4 r1 (Heap.IsSliceOf.new ..) pl pu q3
 show wpAny (model X.prog X.w) X.A (subscriptTail e (.Slice lo hi none p2) v (.ref s3.heap.objs.size)) (EP X pins σ Q) X.xe { s3 with heap:=s3.heap.push { cls:=.type "slice",data:=.fields #[vl,vu,.none] } }
 exact tail_any (ops:=[.ref s3.heap.objs.size,v]) ht hT hg (by with_unfolding_all rfl)
noncomputable def cutV (xs:List V) (lo hi:Option Int):List V:=(xs.drop (HT.sIx xs.length 0 lo)).take (HT.sIx xs.length xs.length hi-HT.sIx xs.length 0 lo)
theorem zGc (xs:List V) (lo hi:Option Int):(cutV xs lo hi).length<=xs.length:=by
 unfold cutV
 rw[xU,vg]
 lia
noncomputable def rSlT (K:PySem.W.Frag):V->Option Int->Option Int->Hp->VK->Prop:=fun x lo hi H Q=>∃a xs,x=.ref a/\SqT K H a xs /\
 ¬ (HT.sIx xs.length 0 lo=0/\HT.sIx xs.length xs.length hi=xs.length)/\∀p,H p=none->Q (.ref p) (upd H p (.tup (cutV xs lo hi)))
theorem zTq:SlR X (rSlT X.K):=by
 intro pins s σ H x v vl vu lo hi sl Q I rx hs pl pu h
 obtain⟨a,xs,rfl,hx,hw,q⟩:=h
 cases rx
 obtain⟨its,r,ht,hz⟩:=I.tuple hx
 have hlen:its.toArray.size=xs.length:=by rw[xx];exact r.length.symm
 refine⟨"tuple",_,vX.lookup,ht.typeIs,?_⟩
 refine HT.getItem_tuple_cut ht hs pl pu (by rw[hlen];exact hw) ?_ (by rw[hlen];exact hz)
 rw[hlen]
 refine⟨.ref s.heap.objs.size,_,I.laid (t':=s.toks) (o:=.tup (cutV xs lo hi)) (fun b ob q=>xn _ q) (xi _) ?_,rfl,q _ (I.hok.fresh (xi _))⟩
 exact⟨xk (zGc xs lo hi) hz,_,(r.drop (HT.sIx xs.length 0 lo)).take (HT.sIx xs.length xs.length hi-HT.sIx xs.length 0 lo),IsTup.new _ _⟩
noncomputable def yAj (K:PySem.W.Frag):R2:=fun x y H Q=>∃a b xs ys,x=.ref a/\y=.ref b/\SqT K H a xs/\SqT K H b ys/\xs≠[]/\xs.length+ys.length<=sizeLine /\
 (ys=[]->Q (.ref a) H)/\(ys≠[]->∀p,H p=none->Q (.ref p) (upd H p (.tup (xs++ys))))
theorem Vals.nil_iff {xs:List V}{us:List Value}(r:Vals xs us):us=[] <-> xs=[]:=by
 cases r with
 | nil=>simp
 | cons _ _=>simp
theorem zVz:OpR X (binaryOp .Add) (yAj X.K):=by
 intro pins s σ H x y v u Q I rx ry h
 obtain⟨a,b,xs,ys,rfl,rfl,ha,hb,hx,hz,q1,q2⟩:=h
 cases rx
 cases ry
 obtain⟨its,r1,p1,_⟩:=I.tuple ha
 obtain⟨its2,r2,p2,_⟩:=I.tuple hb
 refine HT.cat_tup p1 p2 (fun z=>hx (r1.nil_iff.mp z)) (fun z=>⟨.ref a,H,I,rfl,q1 (r2.nil_iff.mp z)⟩) (fun z=>?_) (by rw[<- r1.length,<- r2.length];exact hz)
 refine⟨.ref s.heap.objs.size,_,I.laid (t':=s.toks) (o:=.tup (xs++ys)) (fun b ob q=>xn _ q) (xi _) ?_,rfl,q2 (fun w=>z (r2.nil_iff.mpr w)) _ (I.hok.fresh (xi _))⟩
 exact⟨by rw[xy];exact hz,_,r1.append r2,IsTup.new _ _⟩
end
end L2
namespace L2
open PySem PySem.Spec PyProof.Rows
noncomputable def ixN (n:Nat) (i:Int):Option Nat:=if 0<=i then(if i<n then some i.toNat else none)else if -(n:Int)<=i then some (i+n).toNat else none
noncomputable def atI {α:Type}(xs:List α) (i:Int):Option α:=(ixN xs.length i).bind fun j=>xs[j]?
theorem zWg {n:Nat}{i:Int}{j:Nat}(h:ixN n i=some j):seqIndex? i n=some j/\j<n/\-(n:Int)<=i/\i<n:=by
 unfold ixN at h
 by_cases h0:0<=i
 ·rw[xf h0]at h
  by_cases h1:i<n
  ·rw[xf h1]at h
   have e:i.toNat=j:=xJ h
   exact⟨by rw[seqIndex_of h0 h1,e],by nofun,by nofun,h1⟩
  ·rw[xg h1]at h;cases h
 ·rw[xg h0]at h
  by_cases h1:-(n:Int)<=i
  ·rw[xf h1]at h
   have e:(i+n).toNat=j:=xJ h
   exact⟨by rw[seqIndex_neg (by nofun) h1,e],by nofun,h1,by nofun⟩
  ·rw[xg h1]at h;cases h
theorem zL3 {α:Type}{xs:List α}{i:Int}{v:α}(h:atI xs i=some v):∃j,seqIndex? i xs.length=some j/\xs[j]?=some v/\j<xs.length/\-(xs.length:Int)<=i/\i<xs.length:=by
 unfold atI at h
 cases e:ixN xs.length i with
 | none=>rw[e]at h;cases h
 | some j=>
  rw[e]at h
  obtain⟨h1,h2,h3,h4⟩:=zWg e
  exact⟨j,h1,h,h2,h3,h4⟩
noncomputable def zR7 (b:Expr):Prop:=∀o i,subscripted b false o i=operate [o,i] (getItem o i)
noncomputable def IxR (X:Cx) (r:R2):Prop:=
 ∀(value slice:Expr) (pins:List (Addr × Obj)) (s:Shared) (σ:St) (H:Hp) (x y:V) (v u:Value) (Q:VK),Inv X pins σ H s->RelV x v->RelV y u->r x y H Q->
  subscripted slice false v u=operate [v,u] (getItem v u)->wpAny (model X.prog X.w) X.A (subscriptTail value slice v u) (EP X pins σ Q) X.xe s
noncomputable def MtR (X:Cx) (id:String) (r:V->List V->Hp->VK->Prop):Prop:=
 ∀(pins:List (Addr × Obj)) (s:Shared) (σ:St) (H:Hp) (x:V) (xs:List V) (v:Value) (us:List Value) (Q:VK),Inv X pins σ H s->RelV x v->Vals xs us->r x xs H Q->
  wpAny (model X.prog X.w) X.A (call (.builtin id) (v::us)) (EP X pins σ Q) X.xe s
section
variable {X:Cx}{a b:Expr}{ta tb:TE}{pos:Pos}
theorem yAt {r:R2}(hr:IxR X r) (ha:PE X a ta) (hb:PE X b tb) (hs:zR7 b):PE X (.Subscript a b pos) (tOp r ta tb):=by
 intro pins s σ H Q I h
 exact Subscript_ (binT ha hb I h fun v u s2 x y H2 I2 rx ry q=>hr a b pins s2 σ H2 x y v u Q I2 rx ry q (hs _ _))
noncomputable def rIxL (K:PySem.W.Frag):R2:=fun x y H Q=>∃p xs i v,x=.ref p/\y=.int i/\SqL K H p xs/\atI xs i=some v/\Q v H
noncomputable def rIxT (K:PySem.W.Frag):R2:=fun x y H Q=>∃p xs i v,x=.ref p/\y=.int i/\SqT K H p xs/\atI xs i=some v/\Q v H
noncomputable def rIxS:R2:=fun x y H Q=>∃z i c,x=.str z/\y=.int i/\z.length<=sizeLine/\atI z.cps.toList i=some c/\Q (.str ⟨#[c]⟩) H
theorem zWf:IxR X (rIxL X.K):=by
 intro value slice pins s σ H x y v u Q I rx ry h hs
 obtain⟨p,xs,i,z,rfl,rfl,hq,he,q⟩:=h
 cases rx
 obtain⟨t,rfl⟩:=ry
 obtain⟨its,r,pl,hz⟩:=I.list hq
 obtain⟨j,h1,h2,h3,h4,h5⟩:=zL3 he
 obtain⟨w,ew,rw'⟩:=r.get h2
 have hl:=r.length
 have hn:=line63
 have fin:EP X pins σ Q w s:=⟨z,H,I,rw',q⟩
 by_cases h0:0<=i
 ·have hj:i.toNat=j:=by
   rw[seqIndex_of h0 h5]at h1
   exact xJ h1
  exact item_listR pl.isList h0 (by nofun) (by rw[hj];simpa using ew) fin hs
 ·have hj:(i+(its.toArray.size:Int)).toNat=j:=by
   rw[seqIndex_neg (by nofun) h4]at h1
   rw[xx,<- hl]
   exact xJ h1
  exact subscriptTail_builtinR (x:=w) pl.isList.typeIs slot_list_getitem.lookup
   (wpAny_getItem_list_neg (Q:=fun r s'=>r=w/\EP X pins σ Q r s') pl.isList (by nofun) (by rw[xx] <;> lia) (by nofun) (by rw[hj];simpa using ew) ⟨rfl,fin⟩) hs
theorem zZi:IxR X (rIxT X.K):=by
 intro value slice pins s σ H x y v u Q I rx ry h hs
 obtain⟨p,xs,i,z,rfl,rfl,hq,he,q⟩:=h
 cases rx
 obtain⟨t,rfl⟩:=ry
 obtain⟨its,r,pl,hz⟩:=I.tuple hq
 obtain⟨j,h1,h2,h3,h4,h5⟩:=zL3 he
 obtain⟨w,ew,rw'⟩:=r.get h2
 have hl:=r.length
 have hn:=line63
 have fin:EP X pins σ Q w s:=⟨z,H,I,rw',q⟩
 exact subscriptTail_builtinR (x:=w) pl.typeIs slot_tuple_getitem.lookup
  (getItem_tuple (j:=j) (Q:=fun r s'=>r=w/\EP X pins σ Q r s') pl (by nofun) (by nofun) (by rw[xx,<- hl];exact h1) (by simpa using ew) ⟨rfl,fin⟩) hs
theorem zZj:IxR X rIxS:=by
 intro value slice pins s σ H x y v u Q I rx ry h hs
 obtain⟨z,i,c,rfl,rfl,hz,he,q⟩:=h
 obtain⟨t,rfl⟩:=rx
 obtain⟨t',rfl⟩:=ry
 obtain⟨j,h1,h2,h3,h4,h5⟩:=zL3 he
 have hl:z.cps.toList.length=z.length:=by simp[Str.length]
 rw[hl]at h1 h4 h5
 have hn:=line63
 exact tail_any (typeIs_str s z t) slot_str_getitem.lookup (getItem_str (c:=c) (by
  have e1:decide (i < -(2 ^ 63:Int))=false:=xu (by nofun)
  have e2:decide (i >= 2 ^ 63)=false:=xu (by nofun)
  rw[e1,e2,Bool.or_false]) (by rw[h1];simpa using h2) ⟨.str ⟨#[c]⟩,H,I.tok _,⟨_,rfl⟩,q⟩) hs
theorem zIw (lo hi:Option Int) (n:Nat):(sliceBounds lo hi none n).1=((HT.sIx n 0 lo:Nat):Int)/\(sliceBounds lo hi none n).2.1=((HT.sIx n n hi:Nat):Int)/\(sliceBounds lo hi none n).2.2=1:=by
 refine⟨?_,?_,rfl⟩
 ·cases lo with
  | none=>simp[sliceBounds,HT.sIx]
  | some i=>
   simp only[sliceBounds,HT.sIx,Option.getD_none,show(1:Int) > 0 by decide,xj]
   by_cases h:i<0
   ·simp only[h,xj] <;> lia
   ·simp only[h,xV] <;> lia
 ·cases hi with
  | none=>simp[sliceBounds,HT.sIx]
  | some i=>
   simp only[sliceBounds,HT.sIx,Option.getD_none,show(1:Int) > 0 by decide,xj]
   by_cases h:i<0
   ·simp only[h,xj] <;> lia
   ·simp only[h,xV] <;> lia
theorem zHr (its:List Value) (lo hi:Option Int):slicePick its.toArray lo hi none=((its.drop (HT.sIx its.length 0 lo)).take (HT.sIx its.length its.length hi-HT.sIx its.length 0 lo)).toArray:=by
 obtain⟨h1,h2,h3⟩:=zIw lo hi its.toArray.size
 unfold slicePick
 rw[h1,h2,h3]
 simp only[sliceRange_one,pick_run,xx] <;> rfl
noncomputable def rSlL (K:PySem.W.Frag):V->Option Int->Option Int->Hp->VK->Prop:=fun x lo hi H Q=>∃a xs,x=.ref a/\SqL K H a xs/\∀p,H p=none->Q (.ref p) (upd H p (.lst (cutV xs lo hi)))
theorem zUs:SlR X (rSlL X.K):=by
 intro pins s σ H x v vl vu lo hi sl Q I rx hs pl pu h
 obtain⟨a,xs,rfl,hx,q⟩:=h
 cases rx
 obtain⟨its,r,ht,hz⟩:=I.list hx
 have hlen:=r.length
 refine⟨"list",_,slot_list_getitem.lookup,ht.isList.typeIs,?_⟩
 refine wpAny_getItem_list_slice ht.isList hs pl pu .none (by simp) ?_ (by rw[xx] <;> lia)
 rw[zHr,<- hlen]
 refine⟨.ref s.heap.objs.size,_,I.laid (t':=s.toks) (o:=.lst (cutV xs lo hi)) (fun b ob q=>xn _ q) (xi _) ?_,rfl,q _ (I.hok.fresh (xi _))⟩
 exact⟨xk (zGc xs lo hi) hz,_,0,(r.drop (HT.sIx xs.length 0 lo)).take (HT.sIx xs.length xs.length hi-HT.sIx xs.length 0 lo),xA _ rfl⟩
theorem zJq:zBs X (.builtin "len") (fun xs H Q=>∃p ys,xs=[.ref p]/\(SqL X.K H p ys\/SqT X.K H p ys)/\Q (.int ys.length) H):=by
 intro pins s σ H xs us Q I r h
 obtain⟨p,ys,rfl,hq,q⟩:=h
 obtain⟨u,rfl,rx⟩:=vals1 r
 cases rx
 have hn:=line63
 rcases hq with hq|hq
 ·obtain⟨its,r',pl,hz⟩:=I.list hq
  have hlen:=r'.length
  exact Calls.call_len_list pl.isList (by simp only[xx] <;> lia) ⟨.int ys.length,H,I.tok _,⟨s.toks+1,by rw[xx,hlen]⟩,q⟩
 ·obtain⟨its,r',pl,hz⟩:=I.tuple hq
  have hlen:=r'.length
  exact len_tuple pl (by simp only[xx] <;> lia) ⟨.int ys.length,H,I.tok _,⟨s.toks+1,by rw[xx,hlen]⟩,q⟩
theorem zJp:zBs X (.builtin "len") (fun xs H Q=>∃z,xs=[.str z]/\z.length<=sizeLine/\Q (.int z.length) H):=by
 intro pins s σ H xs us Q I r h
 obtain⟨z,rfl,hz,q⟩:=h
 obtain⟨u,rfl,t,rfl⟩:=vals1 r
 have hn:=line63
 exact len_str (by nofun) ⟨.int z.length,H,I.tok _,⟨_,rfl⟩,q⟩
theorem zDb:zBs X (.type "tuple") (fun xs H Q=>∃p ys,xs=[.ref p]/\((SqL X.K H p ys/\∀l,H l=none->Q (.ref l) (upd H l (.tup ys)))\/(SqT X.K H p ys/\Q (.ref p) H))):=by
 intro pins s σ H xs us Q I r h
 obtain⟨p,ys,rfl,h⟩:=h
 obtain⟨u,rfl,rx⟩:=vals1 r
 cases rx
 rcases h with⟨hq,q⟩|⟨hq,q⟩
 ·obtain⟨its,r',pl,hz⟩:=I.list hq
  have hlen:=r'.length
  refine call_tuple_list pl.isList (fun h' kp=>?_) (by simp only[xx] <;> lia)
  have I1:Inv X pins σ H { s with heap:=h' }:=I.kept (t':=s.toks) kp
  have I2:Inv X pins σ (upd H h'.objs.size (.tup ys)) { s with heap:=h'.push { cls:=.type "tuple",data:=.seq its.toArray } }:=
   I1.laid (t':=s.toks) (fun b o e=>xn _ e) (xi _) (show ObjOk X.prog X.w _ _ _ (.tup ys)from⟨hz,its,r',IsTup.new _ _⟩)
  exact⟨.ref h'.objs.size,_,I2,rfl,q _ (I1.hok.fresh (xi _))⟩
 ·obtain⟨its,r',pl,hz⟩:=I.tuple hq
  exact call_tuple_same pl ⟨.ref p,H,I,rfl,q⟩
noncomputable def tyV (K:PySem.W.Frag) (T:String) (x:V) (H:Hp):Prop:=match x with
 | .str _=>T="str"
 | .int _=>T="int"
 | .ref p=>(T="list"/\∃xs,SqL K H p xs)\/(T="tuple"/\∃o,K.lookup p=some o/\o.cls=.type "tuple"/\o.dict=none) \/
   (T="dict"/\((∃kvs,H p=some (.dK kvs))\/∃kvs,H p=some (.dT kvs)))\/(T="set"/\∃S n,H p=some (.set S n))
 | _=>False
theorem zTl {pins:List (Addr × Obj)}{σ:St}{H:Hp}{s:Shared}{T:String}{x:V}{v:Value}(I:Inv X pins σ H s) (r:RelV x v) (ty:tyV X.K T x H):
  s.TypeIs v T/\∀a,v=.ref a->∃ob,s.heap.get? a=some ob/\ob.dict=none:=by
 cases x with
 | str z=>
  obtain⟨t,rfl⟩:=r
  cases(show T="str" from ty)
  exact⟨typeIs_str s z t,fun _ e=>nomatch e⟩
 | int i=>
  obtain⟨t,rfl⟩:=r
  cases(show T="int" from ty)
  exact⟨typeIs_int s i t,fun _ e=>nomatch e⟩
 | ref p=>
  cases r
  rcases ty with⟨rfl,xs,hq⟩|⟨rfl,o,hk,hc,hd⟩|⟨rfl,hk⟩|⟨rfl,S,n,hk⟩
  ·obtain⟨its,_,pl,_⟩:=I.list hq
   refine⟨pl.isList.typeIs,fun a e=>?_⟩
   cases e
   obtain⟨o,n,e,c,hd,_⟩:=pl
   exact⟨o,e,hd⟩
  ·refine⟨⟨o,I.kIn p o hk,hc⟩,fun a e=>?_⟩
   cases e
   exact⟨o,I.kIn _ o hk,hd⟩
  ·have z:∃o,s.heap.get? p=some o/\o.ExactDict:=by
    rcases hk with⟨kvs,hk⟩|⟨kvs,hk⟩
    ·obtain⟨_,_,_,_,o,_,_,e,ex,_⟩:=I.hok p _ hk
     exact⟨o,e,ex⟩
    ·obtain⟨_,_,_,_,o,_,_,e,ex,_⟩:=I.hok p _ hk
     exact⟨o,e,ex⟩
   obtain⟨o,e,ex⟩:=z
   refine⟨⟨o,e,ex.1⟩,fun a e2=>?_⟩
   cases e2
   exact⟨o,e,ex.2.1⟩
  ·obtain⟨o,_,_,_,e,ex,_⟩:=I.hok p _ hk
   refine⟨⟨o,e,ex.1⟩,fun a e2=>?_⟩
   cases e2
   exact⟨o,e,ex.2.1⟩
 | _=>exact False.elim ty
noncomputable def tBM0 (K:PySem.W.Frag) (T:String) (r:V->List V->Hp->VK->Prop) (to:TE):TE:=fun σ H Q=>to σ H fun x H1=>tyV K T x H1/\r x [] H1 Q
noncomputable def tBM (K:PySem.W.Frag) (T:String) (r:V->List V->Hp->VK->Prop) (to:TE) (t:TA):TE:=fun σ H Q=>to σ H fun x H1=>tyV K T x H1/\t σ H1 fun xs H2=>r x xs H2 Q
variable {o e:Expr}{es:List Expr}{to:TE}{t:TA}{name:Str}{apos cpos:Pos}{T id:String}{r:V->List V->Hp->VK->Prop}
theorem zYt (pa:PlainAttrs T) (slot:Slot T name id) (hty:typeOf (.builtin id)=pure (.type "method_descriptor")) (hm:MtR X id r) (ho:PE X o to)
  (hbase:attributeBase o name X.env (eval o X.env)=eval o X.env:=by rfl) (hline:(apos.endLine == cpos.line)=true:=by rfl):PE X (.Call (.Attribute o name apos) [] [] cpos) (tBM0 X.K T r to):=by
 intro pins s σ H Q I h
 refine wpAny_Call_method0_late hbase hline (thn (ho pins s σ H _ I h) fun v s1 hq1=>?_)
 obtain⟨x,H1,I1,r1,ty,q1⟩:=hq1
 obtain⟨h1,h2⟩:=zTl I1 r1 ty
 exact⟨T,id,pa,slot,hty,h1,h2,Calls.callWith_builtin rfl (PySem.evalArgs_none (hm pins s1 σ H1 x [] v [] Q I1 r1 .nil q1))⟩
theorem yAu (pa:PlainAttrs T) (slot:Slot T name id) (hty:typeOf (.builtin id)=pure (.type "method_descriptor")) (hm:MtR X id r) (ho:PE X o to) (ha:PA X (e::es) t)
  (hbase:attributeBase o name X.env (eval o X.env)=eval o X.env:=by rfl)
  (hfew:((backTo cpos (starEach (e::es) X.env)).all (fun x=>!x.1) && (backToKw cpos (keywordEach [] X.env)).all (fun x=>x.1.isSome)
   && decide ((e::es).length+([]:List Keyword).length+(if([]:List Keyword).isEmpty then 0 else 1)<30))=true:=by rfl)
  (hline:(apos.endLine == cpos.line)=true:=by rfl) (hs:starEach (e::es) X.env=(false,eval e X.env)::starEach es X.env:=by rfl) (hplain:(backTo cpos (starEach es X.env)).any (·.1)=false:=by rfl):
  PE X (.Call (.Attribute o name apos) (e::es) [] cpos) (tBM X.K T r to t):=by
 intro pins s σ H Q I h
 refine wpAny_Call_method_late hbase hfew hline rfl (thn (ho pins s σ H _ I h) fun v s1 hq1=>?_)
 obtain⟨x,H1,I1,r1,ty,q1⟩:=hq1
 obtain⟨h1,h2⟩:=zTl I1 r1 ty
 refine⟨T,id,pa,slot,hty,h1,h2,?_⟩
 have hA:=ha cpos pins s1 σ H1 _ I1 q1
 rw[hs]at hA ⊢
 refine Calls.callWith_builtin (by show(false || (backTo cpos (starEach es X.env)).any (·.1))=false;rw[hplain] <;> rfl) (Calls.evalArgs_plain ?_)
 exact thn hA fun us s2 hz9=>by obtain⟨vs,H2,I2,r2,q2⟩:=hz9;exact hm pins s2 σ H2 x vs v us Q I2 r1 r2 q2
end
end L2
namespace L2
open PySem PySem.Spec PyProof.Rows
noncomputable def MtM (X:Cx) (id:String) (r:V->List V->Hp->VK->Prop):Prop:=
 ∀(pins:List (Addr × Obj)) (s:Shared) (σ:St) (H:Hp) (x:V) (xs:List V) (v:Value) (us:List Value) (Q:VK),Inv X pins σ H s->RelV x v->Vals xs us->r x xs H Q->
  wpAny (model X.prog X.w) X.A (call (.builtin id) (v::us)) (EP X pins σ Q) X.xe s
theorem Vals.one:∀{x:V}{us:List Value},Vals [x] us->∃u,us=[u]/\RelV x u
 | _,_,.cons r .nil=>⟨_,rfl,r⟩
theorem Vals.zero:∀{us:List Value},Vals [] us->us=[]
 | _,.nil=>rfl
theorem Vals.dropLast {xs:List V}{us:List Value}(h:Vals xs us):Vals xs.dropLast us.dropLast:=by
 induction h with
 | nil=>exact .nil
 | cons r t ih=>
  cases t with
  | nil=>exact .nil
  | cons q t'=>exact .cons r ih
theorem Vals.reverse {xs:List V}{us:List Value}(h:Vals xs us):Vals xs.reverse us.reverse:=by
 induction h with
 | nil=>exact .nil
 | cons r t ih=>rw[List.reverse_cons,List.reverse_cons];exact Vals.append ih (.cons r .nil)
theorem zNb {α:Type}(l:List α):l.eraseIdx (l.length-1)=l.dropLast:=by
 induction l with
 | nil=>rfl
 | cons a r ih=>
  cases r with
  | nil=>rfl
  | cons b r=>
   have e:(a::b::r).length-1=((b::r).length-1)+1:=by
    have h1:(a::b::r).length=r.length+2:=rfl
    have h2:(b::r).length=r.length+1:=rfl
    lia
   rw[e,List.eraseIdx_cons_succ,ih]
   all_goals rfl
section
variable {X:Cx}{pins:List (Addr × Obj)}{σ:St}{H:Hp}{s:Shared}{l b:Addr}{xs ys zs:List V}
theorem Inv.lset {its its':List Value}{n:Nat}{f:Array Value->Array Value}{t':Nat}(I:Inv X pins σ H s) (hH:H l=some (.lst xs))
  (e:s.heap.get? l=some { cls:=.type "list",data:=.seq its.toArray n }) (hf:f its.toArray=its'.toArray) (hv:Vals ys its') (hz:ys.length<=sizeLine):
  Inv X pins σ (upd H l (.lst ys)) { s with heap:=s.heap.update l (Obj.mapSeq f),toks:=t' }:=by
 have q:=PySem.IsL.update e f
 rw[hf]at q
 refine I.write (x:=l) (e:=l) (by rw[hH];exact trivial) (.inl rfl) (fun b' u hb hu=>(yh s.heap (Obj.mapSeq f) (xw hb)).trans hu) ⟨_,q⟩ ?_
 exact⟨hz,its',_,hv,q⟩
theorem Inv.lnew {its:List Value}{t':Nat}(I:Inv X pins σ H s) (hv:Vals ys its) (hz:ys.length<=sizeLine):
  Inv X pins σ (upd H s.heap.objs.size (.lst ys)) { s with heap:=s.heap.push { cls:=.type "list",data:=.seq its.toArray },toks:=t' }:=
 I.laid (fun _ _ q=>xn _ q) (xi _) ⟨hz,its,0,hv,xA _ rfl⟩
theorem Inv.fresh (I:Inv X pins σ H s):H s.heap.objs.size=none:=I.hok.fresh (xi _)
theorem Inv.lstM (I:Inv X pins σ H s) (hH:H l=some (.lst xs)):xs.length<=sizeLine/\∃(its:List Value) (n:Nat),Vals xs its/\xs.length=its.length/\s.heap.get? l=some { cls:=.type "list",data:=.seq its.toArray n }:=by
 obtain⟨z,its,n,r,e⟩:=I.hok l _ hH
 exact⟨z,its,n,r,r.length,e⟩
theorem zSd {n:Nat}(h:n<=sizeLine):Builtin.List.listTooLong n=false:=by
 unfold Builtin.List.listTooLong
 exact xu (by nofun)
end
section
variable {X:Cx}
noncomputable def zV2:V->List V->Hp->VK->Prop:=fun x vs H Q=>∃l xs y,x=.ref l/\vs=[y]/\H l=some (.lst xs)/\xs.length<sizeLine/\Q .non (upd H l (.lst (xs++[y])))
theorem zP8:MtM X "list.append" zV2:=by
 intro pins s σ H x vs v us Q I rx rv h
 obtain⟨l,xs,y,rfl,rfl,hH,hz,q⟩:=h
 cases rx
 obtain⟨u,rfl,ru⟩:=rv.one
 obtain⟨z,its,n,r,hl,e⟩:=I.lstM hH
 refine call_meets F.slot_list_append ⟨_,e,rfl⟩ F.entry_list_append (F.args_list_append_2 _ _) (PySem.list_append l its.toArray n u (by rw[xx];lia)) ⟨e,?_⟩
 refine⟨.non,_,I.lset (its':=its++[u]) hH e (by simp) (r.append (.cons ru .nil)) ?_,rfl,q⟩
 rw[xy,vI]
 lia
noncomputable def rPop:V->List V->Hp->VK->Prop:=fun x vs H Q=>∃l xs y,x=.ref l/\vs=[]/\H l=some (.lst xs)/\xs[xs.length-1]?=some y/\Q y (upd H l (.lst xs.dropLast))
theorem zZ5:MtM X "list.pop" rPop:=by
 intro pins s σ H x vs v us Q I rx rv h
 obtain⟨l,xs,y,rfl,rfl,hH,hy,q⟩:=h
 cases rx
 have hus:=rv.zero
 subst hus
 obtain⟨z,its,n,r,hl,e⟩:=I.lstM hH
 obtain⟨u,hu,ru⟩:=r.get hy
 have hy':its.toArray[its.toArray.size-1]?=some u:=by
  show its.toArray[its.length-1]?=some u
  rw[<- uZ,<- hl]
  exact hu
 refine call_meets F.slot_list_pop ⟨_,e,rfl⟩ F.entry_list_pop (F.args_list_pop_1 _) (MeetsSeq.list_pop_last l its.toArray n u hy' (by rw[xx];lia)) ⟨e,?_⟩
 refine⟨y,_,I.lset (its':=its.dropLast) hH e ?_ r.dropLast ?_,ru,q⟩
 ·show its.toArray.eraseIdxIfInBounds (its.toArray.size-1)=its.dropLast.toArray
  rw[xx,List.eraseIdxIfInBounds_toArray,zNb]
 ·rw[List.length_dropLast]
  lia
theorem len_rep {α:Type}(xs:List α) (k:Nat):(List.replicate k xs).flatten.length=k*xs.length:=by
 induction k with
 | zero=>simp
 | succ k ih=>rw[uh,List.flatten_cons,xy,ih,Nat.succ_mul,Nat.add_comm]
end
end L2
namespace Att
open PySem PySem.W PySem.Calls PyProof.Rows
theorem zFz {P:Params}{h:Heap}:∀(ns:List Int) (vs:List Value),WellAll P h vs (ns.map WData.int)->IntsAre vs ns:=by
 intro ns
 induction ns with
 | nil=>
  intro vs w
  rw[vf]at w
  cases w
  exact .nil
 | cons n ns ih=>
  intro vs w
  rw[xt]at w
  cases w with
  | cons a b=>
   cases a
   exact .cons _ _ (ih _ b)
theorem zOe {l:OpenLaw}{n:Nat}(hn:l.most=some n) {P:Params}{h:Heap}{args:List WData}{vals:List Value}
  (hpre:l.row.toRowW.claim.pre args=true) (hwl:WellAll P h vals args):
  ∃a vs ns,vals=[Value.ref a]/\args=[WData.list (ns.map WData.int)]/\h.get? a=some { cls:=.type "list",data:=.seq vs.toArray }/\IntsAre vs ns/\ns.length<=n:=by
 have hsh:WShape.hasAll [] args [.list .int]=true:=(pre_splitW hpre).1
 have hc:l.pre.holds [] { args:=args }=true:=(pre_splitW hpre).2
 obtain⟨d,r,rfl,h1,h2⟩:=hasAllW_cons hsh
 obtain rfl:=hasAllW_nil h2
 obtain⟨xs,rfl,h3⟩:=hasW_list h1
 obtain⟨ns,rfl⟩:=items_int h3
 have hlen:ns.length<=n:=by
  unfold OpenLaw.pre at hc
  have h4:(WTm.not (.lt (.lit (.int (n:Int))) (.len (.arg 0)))).holds [] { args:=[.list (ns.map .int)] }=true:=by
   have h4:=(holds_andW hc).1
   rw[hn]at h4
   exact h4
  have h5:=condW_of h4 (w_not (w_lt w_lit (w_len_list (w_arg rfl))))
  rw[xp]at h5
  refine Nat.le_of_not_lt fun q=>?_
  have q':(n:Int)<((ns.length:Nat):Int):=by nofun
  first
   | (rw[xv q']at h5;exact absurd h5 (by decide))
   | (simp at h5;lia)
 cases hwl with
 | cons w1 w2=>
  cases w2
  cases w1 with
  | list ho hall=>exact⟨_,_,ns,rfl,rfl,ho,zFz ns _ hall,hlen⟩
theorem zOs (l:OpenLaw) (args:List WData):l.row.toRowW.claim.post args (.bool true) args=true:=
 postW_of (r:=l.row.toRowW) (X:=(true == true))
  (show WShape.has [] (.bool true) .bool=true by first|rfl|decide|simp[WShape.has,WShape.arms,WShape.armsAll])
  (show(WTm.eq .res (.lit (.bool true))).value [] { args:=args,res:=some (.bool true),after:=args }=some (.bool (true == true))from w_eq_bool (w_res rfl) w_lit) rfl
theorem attach_call {l:OpenLaw}{n:Nat}{q:Program}{loose:List Str}{XP:(Str->Option Value)->Heap->Prop}{YP:World->Heap->Prop}{d:DefRec}
  (hn:l.most=some n) (hdf:d.params.defaults=[])
  (call:∀(w:World) (s₀ s₁:Shared) (mg mb:Str->Option Value) (fa:Addr) (o:Obj) (pm cd doc:Value) (a:Addr) (vs:List Value) (ns:List Int),
   Ground q loose [] XP w s₀ mg mb s₁.heap->YP w s₁.heap->
   s₁.heap.get? fa=some o->o.data=.func (docDef d.name d.params d.body d.scope pm cd doc)->s₁.heap.CodeRec cd d.name->mg d.name=some (.ref fa)->
   s₁.heap.get? a=some { cls:=.type "list",data:=.seq vs.toArray }->IntsAre vs ns->ns.length<=n->s₁.gens=#[]->
   codeAny (model l.prog w) callerA (.call (.ref fa) ⟨[.ref a],[]⟩) (fun r s'=>r=.ok (.ret (.bool true))/\OldK s₁.heap s'.heap/\s'.os=s₁.os/\AllBare s'.gens) s₁):
  WalkO q loose XP YP l.row.toRowW d [] (fun f vs=>PySem.call f vs):=by
 intro w s₀ s₁ mg mb G Y fa o pm cd doc dV kV ho hd hcd hD hmg hg args vals as hpre hlay hrd hwl hlo
 obtain rfl:dV=.none:=Dflts.none hD hdf
 obtain rfl:kV=.none:=Dflts.noKw hD
 obtain⟨a,vs,ns,rfl,rfl,hobj,hints,hlen⟩:=zOe hn hpre hwl
 refine enter_call (codeAny_mono (call w s₀ s₁ mg mb fa o pm cd doc a vs ns G Y ho (fd_plain hd) hcd hmg hobj hints hlen hg) fun r s' hq=>?_)
 obtain⟨rfl,h2,h3,h4⟩:=hq
 exact⟨.inl ⟨.bool true,.bool true,[],rfl,fun _=>rfl,.bool true,zOs l _,fun _=>⟨List.Pairwise.nil,fun _ hm=>(nomatch hm)⟩⟩,h2,h3,h4⟩
end Att
namespace L2
open PySem PySem.Spec PyProof.Rows
theorem zIr:∀{vs:List Value}{ns:List Int},IntsAre vs ns->Vals (ns.map V.int) vs
 | _,_,.nil=>.nil
 | _,_,.cons n t h=>.cons ⟨t,rfl⟩ (zIr h)
noncomputable def Only (H:Hp):Prop:=∀b,H b=none\/∃o xs,H b=some (.frz o (.lst xs))
theorem law_call {P:Program}{w:World}{K:PySem.W.Frag}{mg mb:Str->Option Value}{CX:CXT}{k:Nat}{fa a:Addr}{fd:FuncData}{x:Str}{sp:Sp}{s₁:Shared}{vs:List Value}{ns:List Int}
  (KX:K.In s₁.heap) (hns:s₁.heap.Ns mainGlobals mg) (hb:s₁.heap.Ns builtinsNs mb) (hbb:∀x:Str,x≠"__name__"->mb x=bootBuiltins x) (hlim:s₁.heap.NoLimit) (hg:s₁.gens=#[])
  (ha:s₁.heap.get? a=some { cls:=.type "list",data:=.seq vs.toArray }) (hi:IntsAre vs ns) (hl:ns.length<=sizeLine) (hr:Room k callerA)
  (F:∀base:Heap,K.In base->base.Ns mainGlobals mg->FnOk P w K mg base CX k fa fd [x] sp) (hbind:∀(s:Shared) (u:Value),BindsTo s fd ⟨[u],[]⟩ [(x,u)])
  (hsp:∀H:Hp,Only H->SqL K H a (ns.map V.int)->sp [.ref a] H (fun v _=>v=.bl true) fun _ _ _=>False)
  (hCX:∀H e s',CX [] H s₁ (fun _ _ _=>False) e s'->False):
  codeAny (model P w) callerA (.call (.ref fa) ⟨[.ref a],[]⟩) (fun r s'=>r=.ok (.ret (.bool true))/\OldK s₁.heap s'.heap/\s'.os=s₁.os/\AllBare s'.gens) s₁:=by
 have rv:=zIr hi
 have lenV:=hi.length
 -- from an abstract heap in which nothing but the script may be tracked
 have core:∀H:Hp,Only H->SqL K H a (ns.map V.int)->HOk P w H s₁.heap->(∀b,H b≠none->b=a)->(H a≠none->K.lookup a=none)->
   codeAny (model P w) callerA (.call (.ref fa) ⟨[.ref a],[]⟩) (fun r s'=>r=.ok (.ret (.bool true))/\OldK s₁.heap s'.heap/\s'.os=s₁.os/\AllBare s'.gens) s₁:=by
  intro H hO hS hok hA hK
  have zGh:∀{b:Addr}{o:Obj},s₁.heap.get? b=some o->H b=none->(hidT s₁.heap H).get? b=some o:=fun e n=>zSv e n
  have noA:∀{b:Addr}{o:Obj}{es:Array DictEntry}{ep:Nat},s₁.heap.get? b=some o->o.data=.dict es ep->H b=none:=fun {b o es ep} e d=>by
   cases q:H b with
   | none=>rfl
   | some u=>
    have e':b=a:=hA b (by rw[q];simp)
    subst e'
    rw[ha]at e;cases e
    have d':Data.seq vs.toArray _=Data.dict es ep:=d
    cases d'
  have nsK:∀{b:Addr}{m:Str->Option Value},s₁.heap.Ns b m->(hidT s₁.heap H).Ns b m:=fun {b m} ⟨o,es,ep,e,d,r⟩=>⟨o,es,ep,zGh e (noA e d),d,r⟩
  have hKb:K.In (hidT s₁.heap H):=fun b o e=>zGh (KX b o e) (by
   cases q:H b with
   | none=>rfl
   | some u=>
    have e':b=a:=hA b (by rw[q];simp)
    subst e'
    rw[hK (by rw[q];simp)]at e;cases e)
  have hM:Mod K mg (hidT s₁.heap H):=⟨hKb,nsK hns,⟨mb,nsK hb,hbb⟩,let ⟨mc,h1,h2⟩:=hlim;⟨mc,nsK h1,h2⟩⟩
  have e0:Env0 P w K mg (hidT s₁.heap H) callerA [] s₁ H:=⟨rfl,hM,fun b o e=>zW0 e,Nat.le_of_eq (zPs _ _),trivial,fun b hb=>absurd (show b∈([]:List Addr)from hb) (by simp),hok,.of_eq hg⟩
  refine codeAny_mono ((F _ hKb (nsK hns)).run callerA [] s₁ H ⟨[.ref a],[]⟩ [.ref a] [.ref a] _ _ hr e0 (hbind s₁ (.ref a)) (.cons rfl .nil) (hsp H hO hS)) fun r s' h=>?_
  cases r with
  | error e=>exact(hCX H e s' h).elim
  | ok fl=>
   cases fl with
   | next=>exact False.elim h
   | brk=>exact False.elim h
   | cont=>exact False.elim h
   | ret u=>
    obtain⟨v,H',os,bare,un,hok',r',q⟩:=h
    have q':v=.bl true:=q
    subst q'
    obtain rfl:u=Value.bool true:=r'
    refine⟨rfl,OldK.of_keep fun b o e=>?_,os,bare⟩
    cases q:H b with
    | none=>exact un.keep b o e q (by intro z;exact absurd (show b∈([]:List Addr)from z) (by simp)) (by simp)
    | some u=>
     rcases hO b with z|⟨ob,xs,z⟩
     ·rw[q]at z;cases z
     ·have z2:=un.frzs b ob _ z
      obtain⟨e1,_⟩:=hok b _ z
      obtain⟨e2,_⟩:=hok' b _ z2
      rw[e]at e1;cases e1
      exact e2
 cases hk:K.lookup a with
 | some o=>
  -- the script is one of the module's own objects
  have e:=KX a o hk
  rw[ha]at e
  cases e
  refine core (fun _=>none) (fun _=>.inl rfl) (.inr ⟨_,vs.toArray,_,hk,rfl,rfl,rfl,by rw[xx,lenV];exact hl,by simpa using rv⟩) (fun b u z=>by have z':(none:Option HO)=some u:=z;cases z') (fun b z=>absurd rfl z) fun z=>absurd rfl z
 | none=>
  refine core (fun b=>if b=a then some (.frz { cls:=.type "list",data:=.seq vs.toArray } (.lst (ns.map V.int)))else none) (fun b=>?_) (.inl (.inr ⟨{ cls:=.type "list",data:=.seq vs.toArray },xf rfl⟩)) (fun b u z=>?_) (fun b z=>?_) fun _=>hk
  ·by_cases hb:b=a
   ·exact .inr ⟨_,_,xf hb⟩
   ·exact .inl (xg hb)
  ·by_cases hb:b=a
   ·have z':=(xf hb).symm.trans z
    cases z'
    subst hb
    exact⟨ha,by rw[xp];exact hl,vs,_,rv,ha⟩
   ·have z':=(xg hb).symm.trans z
    cases z'
  ·by_cases hb:b=a
   ·exact hb
   ·exact absurd (xg hb) z
end L2
namespace L2
open PySem PySem.Spec PyProof.Rows
theorem walk_of {l:PySem.W.OpenLaw}{n k:Nat}{q:Program}{loose:List Str}{XP:(Str->Option Value)->Heap->Prop}{YP:World->Heap->Prop}{d:DefRec}{K:Params->PySem.W.Frag}{CX:World->CXT}{sp:World->Sp}{x:Str}
  (hn:l.most=some n) (hn2:n<=sizeLine) (hdf:d.params.defaults=[]) (hr:Room k callerA)
  (hY:∀(w:World) (h:Heap),YP w h->(K w.params).In h)
  (F:∀(w:World) (mg:Str->Option Value) (fa:Addr) (h:Heap),(K w.params).In h->h.Ns mainGlobals mg->mg d.name=some (.ref fa)->
   ∃fd:FuncData,(∀(s:Shared) (u:Value),BindsTo s fd ⟨[u],[]⟩ [(x,u)]) /\
    ∀base:Heap,(K w.params).In base->base.Ns mainGlobals mg->FnOk l.prog w (K w.params) mg base (CX w) k fa fd [x] (sp w))
  (hsp:∀(w:World) (H:Hp) (a:Addr) (ns:List Int),ns.length<=n->Only H->SqL (K w.params) H a (ns.map V.int)->sp w [.ref a] H (fun v _=>v=.bl true) fun _ _ _=>False)
  (hCX:∀(w:World) (H:Hp) (s:Shared) (e:Value) (s':Shared),CX w [] H s (fun _ _ _=>False) e s'->False):
  PySem.W.WalkO q loose XP YP l.row.toRowW d [] (fun f vs=>PySem.call f vs):=by
 refine Att.attach_call hn hdf fun w s₀ s₁ mg mb fa o pm cd doc a vs ns G Y ho hd hcd hmg hobj hints hlen hg=>?_
 have KX:=hY w _ Y
 obtain⟨fd,hb,hF⟩:=F w mg fa _ KX G.T.g hmg
 exact law_call KX G.T.g G.T.b G.T.builtins G.T.nolimit hg hobj hints (xk hlen hn2) hr hF hb (fun H hO hS=>hsp w H a ns hlen hO hS) fun H e s'=>hCX w H s₁ e s'
end L2
namespace L2
open PySem PySem.Spec PyProof.Rows
noncomputable def zEz (s:Stmt):Arguments:=match s with
 | .FunctionDef _ a _ _ _ _ _ _ _ _=>a
 | _=>{ posonlyargs:=[],args:=[],vararg:=none,kwonlyargs:=[],kw_defaults:=[],kwarg:=none,defaults:=[] }
noncomputable def zDa (s:Stmt):List Stmt:=match s with
 | .FunctionDef _ _ b _ _ _ _ _ _ _=>b
 | _=>[]
noncomputable def zA8 (s:Stmt):Scope:=match s with
 | .FunctionDef _ _ _ _ _ _ sc _ _ _=>sc
 | _=>{ kind:=.function,names:=[],isGenerator:=false,isCoroutine:=false }
noncomputable abbrev CX0:CXT:=fun _ _ _ _ _ _=>False
noncomputable abbrev E0:XK:=fun _ _ _=>False
theorem pass0 {X:Cx}:Passes CX0 X E0:=fun _ _ _ _ _ _ _ h=>h.elim
structure Fun (K:PySem.W.Frag) (x qual:Str) (st:Stmt) (f:Addr) (fd:FuncData):Prop where
 ex:∃(oc:Value) (od:Option Addr) (kV doc pm:Value) (an:Option Addr) (cdv ct:Value) (osl:Array (Option Value)),
  fd=PySem.W.fnOf x qual (zEz st) (zDa st) (zA8 st) .none kV doc pm an cdv ct/\K.lookup f=some ⟨oc,od,.func fd,osl⟩/\PySem.W.codeIn K cdv qual=true
 kp:PySem.W.keepIn K (.ref f)=true
section
variable {P:Program}{w:World}{K:PySem.W.Frag}{mg:Str->Option Value}{base:Heap}
theorem Fun.ok {x qual:Str}{st:Stmt}{f:Addr}{fd:FuncData}{N ps:List Str}{k:Nat}{sp:Sp}(F:Fun K x qual st f fd) (S:zB6 N ps (zA8 st)) (len:∀vs H Q E,sp vs H Q E->vs.length=ps.length)
  (hbody:∀(cdv:Value) (A:Around) (outer:List Env) (s:Shared) (H:Hp) (vs:List V) (Q:VK) (E:XK),Room k (A.deeper (envOfC qual (zA8 st) s.heap.objs.size f cdv))->sp vs H Q E->
   ∃t,PSs (cxOf CX0 P w K mg base N qual (zA8 st) f cdv A outer s H E).nox (zDa st) t/\t { nx:=fun _ H'=>Q .non H',rt:=Q } (start N vs) H):FnOk P w K mg base CX0 (k+1) f fd ps sp:=by
 obtain⟨oc,od,kV,doc,pm,an,cdv,ct,osl,rfl,lk,hcd⟩:=F.ex
 refine yBe lk hcd S len fun A outer s H vs Q E hr hsp=>?_
 obtain⟨t,h,q⟩:=hbody cdv A outer s H vs Q E hr hsp
 exact⟨t,h.nox,q⟩
theorem Fun.binds {x qual:Str}{st:Stmt}{f:Addr}{fd:FuncData}{ps:List Str}(F:Fun K x qual st f fd)
  (h:∀(kV doc pm:Value) (an:Option Addr) (cdv ct:Value) (us:List Value),us.length=ps.length->bindArgs (PySem.W.fnOf x qual (zEz st) (zDa st) (zA8 st) .none kV doc pm an cdv ct) ⟨us,[]⟩=pure (ps.zip us)):Binds K fd ps []:=by
 obtain⟨oc,od,kV,doc,pm,an,cdv,ct,osl,rfl,lk,hcd⟩:=F.ex
 exact .all (h kV doc pm an cdv ct)
theorem zC8 {x qual:Str}{st:Stmt}{f:Addr}{oc:Value}{od an:Option Addr}{osl:Array (Option Value)}{kV doc pm cdv ct:Value}(l:K.lookup f=some ⟨oc,od,.func (PySem.W.fnOf x qual (zEz st) (zDa st) (zA8 st) .none kV doc pm an cdv ct),osl⟩)
  (c:PySem.W.codeIn K cdv qual=true) (k:PySem.W.keepIn K (.ref f)=true):Fun K x qual st f (PySem.W.fnOf x qual (zEz st) (zDa st) (zA8 st) .none kV doc pm an cdv ct):=⟨⟨oc,od,kV,doc,pm,an,cdv,ct,osl,rfl,l,c⟩,k⟩
end
theorem zDl {A:Around}{k:Nat}(hr:Room k A):A.units+1<cLine:=Nat.lt_of_le_of_lt (uG (by decide:1<=64) _) hr.units
section
variable {X:Cx}
theorem pv (i:Nat) {x:Str}{pos:Pos}(hN:X.N[i]?=some x:=by rfl) (hv:Vis X.env.scope x:=by first|exact Or.inl rfl|exact Or.inr (Or.inl rfl)|exact Or.inr (Or.inr rfl)) (hd:(x == ("__debug__":Str))=false:=by decide)
  (hcd:(x == ("__classdict__":Str))=false:=by decide):PE X (.Name x pos) (tVar i):=zYk hN hv hd hcd
end
end L2
namespace L2
open PySem PySem.Spec PyProof.Rows
section
variable {prog:Program}{w:World}{A:Around}{R:Result->Shared->Prop}{s:Shared}
theorem zJn {elt target iter:Expr}{ifs:List Expr}{scope:Scope}{pos:Pos}{it acc:Value}{env:Env}(I:Nat->Shared->Prop)
  (turn:∀n s,I n s->wpAny (model prog w) A (pyNext it) (fun r s₁=>match r with
   | none=>R (.ok .next) s₁
   | some v=>wpAny (model prog w) A (letOwnedTupleGo target it v) (fun _ s₂=>wpAny (model prog w) A (assign target env v) (fun _ s₂=>
     wpAny (model prog w) A (forIn ifs true fun c r=>if r=true then do let ok <- isTrue c env (eval c env);pure (ForInStep.yield ok)else pure (ForInStep.yield r)) (fun ok s₃=>
      if ok=true then wpAny (model prog w) A (eval elt env) (fun x s₄=>
       wpAny (model prog w) A (call (.builtin "list.append") [acc,x]) (fun _ s₅=>∃m,m<n/\I m s₅) (fun _ _=>False) s₄) (fun _ _=>False) s₃
      else ∃m,m<n/\I m s₃) (fun _ _=>False) s₂) (fun _ _=>False) s₂) (fun _ _=>False) s₁) (fun _ _=>False) s)
  (n:Nat) (h:I n s):
  codeAny (model prog w) A (.compLoop (.ListComp elt [⟨target,iter,ifs,0⟩] scope pos) 0 it acc env) R s:=by
 refine codeAny_loop rfl I (fun n s hI=>?_) n h
 show wpAny _ A ((compTurn (.ListComp elt [⟨target,iter,ifs,0⟩] scope pos) 0 it acc env).onRaise (fun x=>do noteFrame x env;theTreesLotGoes x)) _ _ s
 refine wpAny_noted ?_
 rw[compTurn_list]
 refine xa (wpAny_standAt (xa (vB (turn n s hI) (fun r s₁ h₁=>?_) fun _ _ h'=>h'.elim)))
 cases r with
 | none=>exact xh h₁
 | some v=>
  refine xa (vB h₁ (fun _ s₁' h₁=>?_) fun _ _ h'=>h'.elim)
  refine xa (vB h₁ (fun _ s₂ h₂=>xa (vB h₂ (fun ok s₃ h₃=>?_) fun _ _ h'=>h'.elim)) fun _ _ h'=>h'.elim)
  cases ok with
  | false=>exact xh ⟨rfl,h₃⟩
  | true=>
   exact xa (xa (vB h₃ (fun x s₄ h₄=>xa (vB h₄ (fun _ s₅ h₅=>xh (xh ⟨rfl,h₅⟩)) fun _ _ h'=>h'.elim)) fun _ _ h'=>h'.elim))
end
theorem zNi {env:Env}:∀(names:List (Str × NameKind)) (cs:List (Str × Addr)),(∀y∈names,y.2=.free->∃c,env.cells.lookup y.1=some c)->∃cl:List (Str × Addr),
  (forIn names cs fun x r=>(match x,r with|(name,kind),cs=>if(kind == NameKind.free)=true then do let c <- cellOf env name;pure (ForInStep.yield ((name,c)::cs))else pure (ForInStep.yield cs)):Sem (List (Str × Addr)))=pure cl /\
  (∀x c,cl.lookup x=some c->cs.lookup x=some c\/env.cells.lookup x=some c)/\(∀x c,cs.lookup x=some c->∃c',cl.lookup x=some c')/\∀y∈names,y.2=.free->∃c,cl.lookup y.1=some c:=by
 intro names
 induction names with
 | nil=>intro cs _;exact⟨cs,rfl,fun _ _ h=>.inl h,fun x c h=>⟨c,h⟩,fun _ h=>nomatch h⟩
 | cons y r ih=>
  intro cs h
  obtain⟨n,k⟩:=y
  have hr:∀y∈r,y.2=.free->∃c,env.cells.lookup y.1=some c:=fun y hy=>h y (vt _ hy)
  by_cases hk:k=.free
  ·subst hk
   obtain⟨c,hc⟩:=h (n,.free) xQ rfl
   obtain⟨cl,e,h1,h2,h3⟩:=ih ((n,c)::cs) hr
   refine⟨cl,?_,fun x d hx=>?_,fun x d hx=>?_,fun y hy hf=>?_⟩
   ·rw[yi]
    have hcell:cellOf env n=(pure c:Sem Addr):=by simp only[cellOf,hc]
    simp only[beq_self_eq_true,xj,hcell]
    simpa using e
   ·rcases h1 x d hx with z|z
    ·rw[vn]at z
     by_cases hxn:(x == n)=true
     ·rw[hxn]at z;simp at z;subst z
      have:x=n:=by simpa using hxn
      subst this;exact .inr hc
     ·rw[yj]at hxn;rw[hxn]at z;exact .inl z
    ·exact .inr z
   ·by_cases hxn:(x == n)=true
    ·exact h2 x c (by rw[vn,hxn])
    ·rw[yj]at hxn
     exact h2 x d (by rw[vn,hxn];exact hx)
   ·rcases xm.mp hy with z|z
    ·subst z;exact h2 n c (by rw[vn];simp)
    ·exact h3 y z hf
  ·have hb:(k == NameKind.free)=false:=by simpa using hk
   obtain⟨cl,e,h1,h2,h3⟩:=ih cs hr
   refine⟨cl,?_,h1,h2,fun y hy hf=>?_⟩
   ·rw[yi]
    simp only[hb,vo,xV]
    simpa using e
   ·rcases xm.mp hy with z|z
    ·subst z;exact absurd hf hk
    ·exact h3 y z hf
theorem zEk {scope:Scope}{env:Env}(h:∀y∈scope.names,y.2=.free->∃c,env.cells.lookup y.1=some c):∃cl:List (Str × Addr),closureFor scope env=pure cl /\
  (∀x c,cl.lookup x=some c->env.cells.lookup x=some c)/\∀y∈scope.names,y.2=.free->∃c,cl.lookup y.1=some c:=by
 obtain⟨cl,e,h1,_,h3⟩:=zNi (env:=env) scope.names [] h
 refine⟨cl,?_,fun x c hx=>(h1 x c hx).elim (fun z=>nomatch z) id,h3⟩
 simp only[closureFor]
 rw[e]
 rfl
theorem zF1 {scope:Scope}{env:Env}{x:Str}(h:(relabel scope env).names.lookup x=some .cell\/(relabel scope env).names.lookup x=some .free):∃y∈scope.names,y.1=x/\(y.2=.free\/y.2=.cell):=by
 have key:∀(l:List (Str × NameKind)),((l.map fun(n,k)=>if(k == NameKind.free && env.scope.kind == .function && env.kindOf n == some .cell)then(n,NameKind.cell)else(n,k)).lookup x=some .cell \/
   (l.map fun(n,k)=>if(k == NameKind.free && env.scope.kind == .function && env.kindOf n == some .cell)then(n,NameKind.cell)else(n,k)).lookup x=some .free)->∃y∈l,y.1=x/\(y.2=.free\/y.2=.cell):=by
  intro l
  induction l with
  | nil=>intro h;rcases h with h|h <;> simp at h
  | cons y r ih=>
   intro h
   obtain⟨n,k⟩:=y
   by_cases hb:(k == NameKind.free && env.scope.kind == .function && env.kindOf n == some .cell)=true
   ·have kf:k=.free:=by simp at hb;exact hb.1.1
    by_cases hx:(x == n)=true
    ·have:x=n:=by simpa using hx
     exact⟨(n,k),xQ,this.symm,.inl kf⟩
    ·rw[yj]at hx
     simp only[xt,hb,xj,vn,hx]at h
     obtain⟨y,hy,z⟩:=ih h
     exact⟨y,vt _ hy,z⟩
   ·rw[yj]at hb
    by_cases hx:(x == n)=true
    ·have e:x=n:=by simpa using hx
     simp only[xt,hb,vn,hx,vo,xV]at h
     rcases h with h|h
     ·exact⟨(n,k),xQ,e.symm,.inr (xJ h)⟩
     ·exact⟨(n,k),xQ,e.symm,.inl (xJ h)⟩
    ·rw[yj]at hx
     simp only[xt,hb,vn,hx,vo,xV]at h
     obtain⟨y,hy,z⟩:=ih h
     exact⟨y,vt _ hy,z⟩
 exact key scope.names h
noncomputable def zAy (X:Cx) (N:List Str) (scope:Scope) (cl:List (Str × Addr)) (C:Addr) (s:Shared) (H:Hp) (fp:List Addr):Cx where
 prog:=X.prog
 w:=X.w
 K:=X.K
 mg:=X.mg
 base:=X.base
 A:=X.A
 N:=N
 s₀:=s
 H₀:=H
 env:=compEnvC scope cl C X.env
 outer:=X.stack
 stack:=X.stack
 ex:=fp
 fn:=fun x=>scope.names.lookup x == some .cell
 calm:=X.calm
 pn:=[]
 xe:=fun _ _=>False
structure CompScope (X:Cx) (own fre:List Str) (ix:List Nat) (scope:Scope):Prop where
 kind:scope.kind=.function
 cell:∀y∈scope.names,y.2=.cell->scope.names.lookup y.1=some .cell
 loc:∀y∈scope.names,y.2=.local->scope.names.lookup y.1=some .local
 fr:∀y∈scope.names,y.2=.free->X.env.kindOf y.1=some .cell\/X.env.kindOf y.1=some .free
 len:fre.length=ix.length
 at_:∀(j:Nat) (i:Nat) (x:Str),fre[j]?=some x->ix[j]?=some i->X.N[i]?=some x/\(X.env.kindOf x=some .cell\/X.env.kindOf x=some .free)
 vis:∀x∈fre,(relabel scope X.env).names.lookup x=some .cell\/(relabel scope X.env).names.lookup x=some .free
 fno:∀x∈fre,scope.names.lookup x≠some .cell
noncomputable def zCp (scope sc:Scope):Scope:=
 { scope with names:=scope.names.map fun(n,k)=>if(k == .free && sc.kind == .function && sc.names.lookup n == some .cell)then(n,.cell)else(n,k) }
noncomputable def zCe (o:Option NameKind):Bool:=o == some .cell || o == some .free
theorem zCx {o:Option NameKind}(h:zCe o=true):o=some .cell\/o=some .free:=by
 simpa[zCe]using h
noncomputable def zUc (sc:Scope) (N own fre:List Str) (ix:List Nat) (scope:Scope):Bool:=
 (scope.kind == .function) && (scope.names.all fun y=>y.2 != .cell || scope.names.lookup y.1 == some .cell) && (scope.names.all fun y=>y.2 != .local || scope.names.lookup y.1 == some .local) &&
 (scope.names.all fun y=>y.2 != .free || zCe (sc.names.lookup y.1)) && (fre.length == ix.length) && ((fre.zip ix).all fun p=>N[p.2]? == some p.1 && zCe (sc.names.lookup p.1)) &&
 (fre.all fun x=>zCe ((zCp scope sc).names.lookup x)) && fre.all fun x=>scope.names.lookup x != some .cell
theorem CompScope.mk' {X:Cx}{N own fre:List Str}{ix:List Nat}{scope sc:Scope}(hs:X.env.scope=sc) (hN:X.N=N) (h:zUc sc N own fre ix scope=true):CompScope X own fre ix scope:=by
 simp only[zUc,xM]at h
 obtain⟨⟨⟨⟨⟨⟨⟨h1,h2⟩,h3⟩,h4⟩,h5⟩,h6⟩,h7⟩,h8⟩:=h
 subst hs
 subst hN
 refine⟨by simpa using h1,fun y hy hl=>?_,fun y hy hl=>?_,fun y hy hl=>?_,by simpa using h5,fun j i x e1 e2=>?_,fun x hx=>?_,fun x hx=>?_⟩
 ·have:=vS.mp h2 y hy
  rw[hl]at this
  simpa using this
 ·have:=vS.mp h3 y hy
  rw[hl]at this
  simpa using this
 ·have:=vS.mp h4 y hy
  rw[hl]at this
  exact zCx (show zCe (X.env.scope.names.lookup y.1)=true by simpa using this)
 ·have hz:(x,i)∈fre.zip ix:=by
   refine yE.mpr ⟨j,?_⟩
   rw[yF]
   exact⟨e1,e2⟩
  have:=vS.mp h6 (x,i) hz
  simp only[xM]at this
  exact⟨by simpa using this.1,zCx this.2⟩
 ·exact zCx (vS.mp h7 x hx)
 ·have:=vS.mp h8 x hx
  simpa using this
section
variable {M:Model}{A:Around}{E:Value->Shared->Prop}{s:Shared}
theorem zQl {lo:Nat}:∀(names:List (Str × NameKind)) (n:Nat) (acc:List (Str × Addr)) (x:Str) (c:Addr),lo<=n->((x,NameKind.cell)∈names\/∀c,acc.lookup x=some c->lo<=c)->(cellsFrom n names acc).lookup x=some c->lo<=c
 | [],_,_,_,_,_,h,e=>h.elim (fun z=>nomatch z) fun z=>z _ e
 | (m,k)::r,n,acc,x,c,hn,h,e=>by
  unfold cellsFrom at e
  split at e
  ·refine zQl r (n+1) _ x c (by nofun) ?_ e
   by_cases hx:x=m
   ·refine .inr fun c' q=>?_
    rw[vn,show(x == m)=true by rw[hx];exact beq_self_eq_true m]at q
    cases q;exact hn
   ·have hb:(x == m)=false:=by simpa using hx
    rcases h with h|h
    ·rcases xm.mp h with z|z
     ·exact absurd (congrArg Prod.fst z) hx
     ·exact .inl z
    ·exact .inr fun c' q=>h c' (by rw[vn,hb]at q;exact q)
  ·rename_i hk
   refine zQl r n acc x c hn ?_ e
   rcases h with h|h
   ·rcases xm.mp h with z|z
    ·cases z;exact absurd rfl hk
    ·exact .inl z
   ·exact .inr h
theorem zQm:∀(names:List (Str × NameKind)) (n:Nat) (acc:List (Str × Addr)) (x:Str),(∀y∈names,y.1=x->y.2≠.cell)->(cellsFrom n names acc).lookup x=acc.lookup x
 | [],_,_,_,_=>rfl
 | (m,k)::r,n,acc,x,h=>by
  unfold cellsFrom
  split
  ·rename_i hk
   rw[zQm r _ _ x fun y hy=>h y (vt _ hy),vn]
   have hx:(x == m)=false:=by
    cases q:x == m with
    | false=>rfl
    | true=>exact absurd (by simpa using hk) (h (m,k) xQ (by simpa using(beq_iff_eq.mp q).symm))
   rw[hx]
  ·exact zQm r n acc x fun y hy=>h y (vt _ hy)
theorem zQn:∀(names:List (Str × NameKind)) (n:Nat) (acc:List (Str × Addr)),(∀x c,acc.lookup x=some c->c<n)->(∀x y c,acc.lookup x=some c->acc.lookup y=some c->x=y)->
  ∀x y c,(cellsFrom n names acc).lookup x=some c->(cellsFrom n names acc).lookup y=some c->x=y
 | [],_,_,_,h=>h
 | (m,k)::r,n,acc,hl,h=>by
  unfold cellsFrom
  split
  ·refine zQn r (n+1) _ (fun x c e=>?_) fun x y c e1 e2=>?_
   ·rw[vn]at e
    cases q:x == m with
    | true=>rw[q]at e;cases e;exact Nat.lt_succ_self _
    | false=>rw[q]at e;exact uH (hl x c e)
   ·rw[vn]at e1 e2
    cases q:x == m with
    | true=>
     cases q':y == m with
     | true=>rw[beq_iff_eq.mp q,beq_iff_eq.mp q']
     | false=>rw[q]at e1;rw[q']at e2;cases e1;exact absurd (hl y _ e2) (vA _)
    | false=>
     cases q':y == m with
     | true=>rw[q]at e1;rw[q']at e2;cases e2;exact absurd (hl x _ e1) (vA _)
     | false=>rw[q]at e1;rw[q']at e2;exact h x y c e1 e2
  ·exact zQn r n acc hl h
theorem zIh:∀(names:List (Str × NameKind)) (n:Nat) (acc:List (Str × Addr)) (x:Str),((x,NameKind.cell)∈names\/∃c,acc.lookup x=some c)->∃c,(cellsFrom n names acc).lookup x=some c
 | [],_,_,_,h=>h.elim (fun z=>nomatch z) id
 | (m,k)::r,n,acc,x,h=>by
  unfold cellsFrom
  split
  ·refine zIh r (n+1) _ x ?_
   cases q:x == m with
   | true=>exact .inr ⟨n,by rw[vn,q]⟩
   | false=>
    rcases h with h|⟨c,h⟩
    ·rcases xm.mp h with z|z
     ·rw[show x=m from congrArg Prod.fst z,beq_self_eq_true]at q;cases q
     ·exact .inl z
    ·exact .inr ⟨c,by rw[vn,q];exact h⟩
  ·rename_i hk
   refine zIh r n acc x ?_
   rcases h with h|h
   ·rcases xm.mp h with z|z
    ·cases z;exact absurd rfl hk
    ·exact .inl z
   ·exact .inr h
theorem zKy:∀(names:List (Str × NameKind)) (h:Heap) (acc:List (Str × Addr)) (lo:Nat),lo<=h.objs.size->(∀x c,acc.lookup x=some c->lo<=c->h.IsCell c none)->∀x c,(cellsFrom h.objs.size names acc).lookup x=some c->lo<=c->(pushCells h names).IsCell c none
 | [],_,_,_,_,q=>q
 | (m,k)::r,h,acc,lo,hl,q=>by
  unfold cellsFrom pushCells
  split
  ·have:=zKy r (h.push { cls:=.type "cell",data:=.cell none }) ((m,h.objs.size)::acc) lo (by rw[vw];lia) fun x c e hc=>by
    rw[vn]at e
    cases z:x == m with
    | true=>rw[z]at e;cases e;exact⟨_,xA _ rfl,rfl⟩
    | false=>rw[z]at e;exact(q x c e hc).keeps fun b o e=>xn _ e
   rwa[vw]at this
  ·exact zKy r h acc lo hl q
theorem zP7 {scope:Scope}{globals:Addr}{closure:List (Str × Addr)}{qual:Str}{around:Env}{Q:Env->Shared->Prop}
  (hQ:Q (newEnv scope s.heap.objs.size globals (cellsFrom (s.heap.objs.size+1) scope.names closure) qual none .none (some around) builtinsNs) { s with heap:=pushCells (s.heap.push { cls:=.type "dict",data:=.dict #[] }) scope.names }):
  wpAny M A (newFunctionEnv scope globals closure [] qual none .none (some around)) Q E s:=by
 simp only[newFunctionEnv,Option.isSome_some,xj]
 refine xa (wpAny_alloc ?_)
 refine xa (wpAny_layCells _ (fun name kind cells=>by cases hkc:kind == NameKind.cell <;> simp[hkc]) _ _ _ _ ?_)
 rw[show({ s with heap:=s.heap.push { cls:=.type "dict",data:=.dict #[] } }:Shared).heap.objs.size=s.heap.objs.size+1 from vw ..]
 simp only[List.forIn_nil]
 exact xa (xh (xh hQ))
end
structure ClOk (X:Cx) (scope:Scope) (C:Addr) (cl:List (Str × Addr)):Prop where
 inj:∀x y c,cl.lookup x=some c->cl.lookup y=some c->x=y
 own:∀x c,scope.names.lookup x=some .cell->cl.lookup x=some c->C<c
 old:∀x c,scope.names.lookup x≠some .cell->cl.lookup x=some c->X.env.cells.lookup x=some c
 has:∀y∈scope.names,(y.2=.free\/y.2=.cell)->∃c,cl.lookup y.1=some c
theorem ClOk.or {X:Cx}{scope:Scope}{C:Addr}{cl:List (Str × Addr)}(h:ClOk X scope C cl) {x:Str}{c:Addr}(e:cl.lookup x=some c):X.env.cells.lookup x=some c\/C<c:=by
 by_cases q:scope.names.lookup x=some .cell
 ·exact .inr (h.own x c q e)
 ·exact .inl (h.old x c q e)
noncomputable def zE5 (own:List Str) (ix:List Nat) (σ:St):St:=own.map (fun _=>none)++ix.map fun i=>(σ[i]?).join
section
variable {X:Cx}{pins:List (Addr × Obj)}{σ:St}{H:Hp}{s:Shared}{own fre:List Str}{ix:List Nat}{scope:Scope}{cl:List (Str × Addr)}{fp:List Addr}{C:Addr}
theorem Inv.stkNo (I:Inv X pins σ H s) {b:Addr}(h:FpOk X pins H b):b ∉ frs X.stack:=fun hb=>
 (xm.mp (I.stkSub b hb)).elim h.2.1 h.2.2.1
theorem zX4 (I:Inv X pins σ H s) (hf:∀b∈fp,FpOk X pins H b) (hlt:∀b∈fp,b<s.heap.objs.size) (S:CompScope X own fre ix scope) (hcl:ClOk X scope C cl)
  (hC:s.heap.objs.size<=C):(zAy X (own++fre) scope cl C s H fp).Ok where
 mod:=I.ok.mod
 kind:=S.kind
 glob:=I.ok.glob
 blt:=I.ok.blt
 above:=hC
 inj:=hcl.inj
 has:=fun x hx=>by
  obtain⟨y,hy,e,k⟩:=zF1 hx
  subst e
  exact hcl.has y hy k
 cab:=fun x c h e=>vM (Nat.lt_of_le_of_lt hC (hcl.own x c (by simpa[zAy]using h) e))
 hd:=I.ok.hd
 frames:=I.ok.frames
 stk:=.inl rfl
 exf:=fun b hb=>⟨xr (xC (hlt b hb) hC),fun x c e=>(hcl.or e).elim (fun e=>(hf b hb).2.2.2.2.1 x c e) fun z=>xw (xr (vH (xC (hlt b hb) hC) z))⟩
 bs:=I.bs
 bsz:=xk I.ok.bsz I.sz
 noex:=fun b o e hb=>by
  rcases(hf b hb).2.2.2.1 with z|z
  ·exact I.ok.noex b o e z
  ·exact absurd (xC (xo e) (xk I.ok.bsz z)) (vA _)
 exfs:=fun b hb=>I.stkNo (hf b hb)
 funs:=I.stack
 frf:=I.stkFree
theorem zNg {h₁:Heap}{t':Nat}{m:Str->Option Value}(I:Inv X pins σ H s) (hf:∀b∈fp,FpOk X pins H b) (hlt:∀b∈fp,b<s.heap.objs.size) (S:CompScope X own fre ix scope) (hcl:ClOk X scope C cl) (hnew:∀x c,cl.lookup x=some c->C<c->h₁.IsCell c none)
  (hC:s.heap.objs.size<=C) (old:∀b o,s.heap.get? b=some o->h₁.get? b=some o) (hn:h₁.Ns C m):
  Inv (zAy X (own++fre) scope cl C s H fp) [] (zE5 own ix σ) H { s with heap:=h₁,toks:=t' } where
 ok:=zX4 I hf hlt S hcl hC
 os:=rfl
 bare:=I.bare
 base:=Un.kept old
 loc:=by
  refine⟨m,hn,fun i x v e1 e2 e3=>?_⟩
  obtain⟨m0,hn0,hl⟩:=I.loc
  have hi:own.length<=i:=by
   rcases vC i own.length with z|z
   ·rw[zE5,vv (by simpa using z),vm]at e2
    cases q:own[i]? <;> rw[q]at e2 <;> simp at e2
   ·exact z
  have e1':(own++fre)[i]?=some x:=e1
  rw[vQ hi]at e1'
  rw[zE5,vQ (by simpa using hi),vm,xp]at e2
  cases q:ix[i-own.length]? with
  | none=>rw[q]at e2;simp at e2
  | some j=>
   rw[q]at e2
   obtain⟨hN,hk⟩:=S.at_ _ _ _ e1' q
   have e2':(σ[j]?).join=some v:=by simpa using e2
   have e4:σ[j]?=some (some v):=by
    cases z:σ[j]? with
    | none=>rw[z]at e2';cases e2'
    | some o=>rw[z]at e2';exact congrArg some e2'
   obtain⟨u,r,lk⟩:=hl j x v hN e4 (hk.elim (fun z=>.inr (.inl z)) fun z=>.inr (.inr z))
   refine⟨u,r,.inr ?_⟩
   rcases lk with⟨k,_⟩|⟨k,c,ec,hc⟩
   ·rcases hk with z|z <;> · rw[k]at z;cases z
   ·have fin:((zAy X (own++fre) scope cl C s H fp).env.kindOf x=some .cell\/(zAy X (own++fre) scope cl C s H fp).env.kindOf x=some .free):=by
     exact S.vis x (v5 e1')
    refine⟨fin,?_⟩
    obtain⟨y,hy,e,kf⟩:=zF1 (env:=X.env) (x:=x) fin
    subst e
    obtain⟨c',hc'⟩:=hcl.has y hy kf
    have:=(hcl.old _ _ (S.fno _ (v5 e1')) hc').symm.trans ec
    cases this
    exact⟨c,hc',by obtain⟨o,ho,hd⟩:=hc;exact⟨o,old _ _ ho,hd⟩⟩
 cell:=fun x c e=>by
  rcases hcl.or e with q|q
  ·obtain⟨v,o,ho,hd⟩:=I.cell x c q
   exact⟨v,o,old _ _ ho,hd⟩
  ·exact⟨none,hnew x c e q⟩
 free:=I.hok.fresh hC
 freeC:=fun x c e=>(hcl.or e).elim (fun q=>I.freeC x c q) fun q=>I.hok.fresh (vM (Nat.lt_of_le_of_lt hC q))
 pin:=fun p hp=>nomatch hp
 hok:=I.hok.kept old
 len:=by simp[zE5,zAy,S.len]
end
noncomputable def PIfs (X:Cx) (ifs:List Expr) (t:TT):Prop:=
 ∀(pins:List (Addr × Obj)) (s:Shared) (σ:St) (H:Hp) (Q:Bool->Hp->Prop),Inv X pins σ H s->t σ H Q->
  wpAny (model X.prog X.w) X.A (forIn ifs true fun c r=>if r=true then do let ok <- isTrue c X.env (eval c X.env);pure (ForInStep.yield ok)else pure (ForInStep.yield r)) (TP X pins σ Q) X.xe s
noncomputable def tYes:TT:=fun _ H Q=>Q true H
theorem zRz {X:Cx}:PIfs X [] tYes:=fun pins s σ H Q I h=>xh ⟨H,I,h⟩
theorem zRy {X:Cx}{c:Expr}{t:TT}(hc:PT X c t):PIfs X [c] t:=by
 intro pins s σ H Q I h
 rw[yi]
 simp only[xj]
 refine xa (xa (thn (hc pins s σ H Q I h) fun b s1 q=>xh ?_))
 simp only[List.forIn_nil]
 exact xh q
noncomputable def zTn (J:It) (g:TG) (tt:TT) (te:TE) (σc:St) (H1:Hp) (Qd:List V->Hp->Prop):Prop:=
 ∃W:Nat->Nat->List V->St->Hp->Prop,(∃m,W 0 m [] σc H1)/\∀i m ys σ H,W i m ys σ H->
  (J.stop i H/\Qd ys H)\/(J.go i H/\ys.length<sizeLine/\∃N:List V->St->Hp->Prop,(∀zs σ' H',N zs σ' H'->∃m',m'<m/\W (i+1) m' zs σ' H')/\∀x H',J.yld i H x H'->g x σ H' fun σ2 H2=>tt σ2 H2 fun c H3=>
   if c=true then te σ2 H3 fun y H4=>N (ys++[y]) σ2 H4 else N ys σ2 H3)
theorem HOk.adopt {P:Program}{w:World}{H:Hp}{h:Heap}{D:Addr}{o:HO}(x:HOk P w H h) (n:H D=none) (new:ObjOk P w (upd H D o) h D o):HOk P w (upd H D o) h:=fun b u e=>by
 by_cases hb:b=D
 ·subst hb
  rw[zB1]at e
  cases e
  exact new
 ·rw[zAq hb]at e
  refine(x b u e).stay (fun c v _ q=>q) (fun c q=>?_) fun c xs q=>?_
  ·rw[zAq (zAm q n)];exact q
  ·rw[zAq (zAm q n)];exact q
theorem Un.adopt {fs ex:List Addr}{H H':Hp}{h h':Heap}{D:Addr}{o:HO}(u:Un fs ex H H' h h') (hD:h.objs.size<=D) (n:H' D=none):Un fs ex H (upd H' D o) h h' where
 keep:=u.keep
 slot:=u.slot
 free:=fun b ob e n' hx=>by rw[zAq (xr (xC (xo e) hD))];exact u.free b ob e n' hx
 there:=u.there
 tups:=fun b xs e=>by have:=u.tups b xs e;rw[zAq (zAm this n)];exact this
 frzs:=fun b ob xs e=>by have:=u.frzs b ob xs e;rw[zAq (zAm this n)];exact this
 tbls:=fun b ps e=>by obtain⟨m,z⟩:=u.tbls b ps e;exact⟨m,by rw[zAq (zAm z n)];exact z⟩
section
variable {X:Cx}{pins:List (Addr × Obj)}{σ:St}{H2:Hp}{s2:Shared}{own fre:List Str}{ix:List Nat}{scope:Scope}{cl:List (Str × Addr)}{fp:List Addr}{C:Addr}
theorem zHd {tg elt iter:Expr}{ifs:List Expr}{pos:Pos}{J:It}{it:Addr}{tn:Nat->Heap->Prop}{g:TG}{tt:TT}{te:TE}{Qd:List V->Hp->Prop}{RR:Value->Addr->Result->Shared->Prop}{E:Value->Shared->Prop}{cl0:List (Str × Addr)}
  (I2:Inv X pins σ H2 s2) (T:Turn X.prog X.w X.K tg J fp it tn) (st2:tn 0 s2.heap) (f2:∀b∈fp,FpOk X pins H2 b) (hc:X.calm=true) (S:CompScope X own fre ix scope)
  (hcl0:∀x c,cl0.lookup x=some c->X.env.cells.lookup x=some c) (hcf0:∀y∈scope.names,y.2=.free->∃c,cl0.lookup y.1=some c)
  (hg:∀cl C,PG (zAy X (own++fre) scope cl C s2 H2 fp) tg g) (hi:∀cl C,PIfs (zAy X (own++fre) scope cl C s2 H2 fp) ifs tt) (he:∀cl C,PE (zAy X (own++fre) scope cl C s2 H2 fp) elt te)
  (q:zTn J g tt te (zE5 own ix σ) H2 Qd)
  (hRR:∀D C s' m' ys H',Inv X pins σ (upd H' D (.lst ys)) s'->s'.heap.Ns C m'->FpOk X pins (upd H' D (.lst ys)) C->H' D=none->Qd ys H'->RR (.ref D) C (.ok .next) s'):
  wpAny (model X.prog X.w) X.A (newList []) (fun acc s₃=>wpAny (model X.prog X.w) X.A (newFunctionEnv scope X.env.globals cl0 [] X.env.qual none .none (some X.env)) (fun cenv s₄=>
   codeAny (model X.prog X.w) X.A (.compStart (.ListComp elt [⟨tg,iter,ifs,0⟩] scope pos) 0 (.ref it) acc { cenv with scope:=relabel scope X.env }) (RR acc cenv.locals) s₄) E s₃) E s2:=by
 obtain⟨W,⟨m0,w0⟩,turn⟩:=q
 refine vk (zP7 ?_)
 dsimp only
 generalize hHH:s2.heap.push { cls:=.type "list",dict:=none,data:=.seq ([]:List Value).toArray }=HH
 have hC:HH.objs.size=s2.heap.objs.size+1:=by rw[<- hHH,vw]
 have hns₁:(pushCells (HH.push { cls:=.type "dict",data:=.dict #[] }) scope.names).Ns HH.objs.size fun _=>none:=(Heap.Ns.new HH (.type "dict")).keeps (pushCells_keeps _ _)
 have hkp:∀b o,HH.get? b=some o->(pushCells (HH.push { cls:=.type "dict",data:=.dict #[] }) scope.names).get? b=some o:=fun b o e=>pushCells_keeps _ _ b o (xn _ e)
 have hltc:∀x c,cl0.lookup x=some c->c<HH.objs.size+1:=fun x c e=>by
  obtain⟨v,o,ho,_⟩:=I2.cell x c (hcl0 x c e)
  rw[hC]
  exact uH (uH (xo ho))
 have hnew:∀x c,(cellsFrom (HH.objs.size+1) scope.names cl0).lookup x=some c->HH.objs.size<c->(pushCells (HH.push { cls:=.type "dict",data:=.dict #[] }) scope.names).IsCell c none:=by
  have:=zKy scope.names (HH.push { cls:=.type "dict",data:=.dict #[] }) cl0 (HH.objs.size+1) (by rw[vw];exact xi _) fun x c e hc=>absurd (xC (hltc x c e) hc) (vA _)
  rw[vw]at this
  exact fun x c e h=>this x c e h
 have hcl:ClOk X scope HH.objs.size (cellsFrom (HH.objs.size+1) scope.names cl0):={
  inj:=zQn _ _ _ hltc fun x y c e1 e2=>I2.ok.inj x y c (hcl0 x c e1) (hcl0 y c e2)
  own:=fun x c h e=>zQl (lo:=HH.objs.size+1) _ _ _ x c (xi _) (.inl (uX h)) e
  old:=fun x c h e=>by
   rw[zQm _ _ _ x fun y hy ex ec=>h (by rw[<- ex];exact S.cell y hy ec)]at e
   exact hcl0 x c e
  has:=fun y hy hk=>by
   obtain⟨n,k⟩:=y
   rcases hk with hk|hk
   ·exact zIh _ _ _ _ (.inr (hcf0 _ hy hk))
   ·dsimp only at hk
    subst hk
    exact zIh _ _ _ _ (.inl hy) }
 generalize cellsFrom (HH.objs.size+1) scope.names cl0=cl at hnew hcl ⊢
 generalize pushCells (HH.push { cls:=.type "dict",data:=.dict #[] }) scope.names=h₁ at hns₁ hkp hnew ⊢
 generalize hDe:s2.heap.objs.size=D at *
 generalize hCe:HH.objs.size=C at *
 have hDC:D≠C:=by nofun
 have hDle:s2.heap.objs.size<=D:=by nofun
 have hCle:s2.heap.objs.size<=C:=by nofun
 have below:∀b o,s2.heap.get? b=some o->b≠C/\b≠D:=fun b o e=>⟨xr (xC (xo e) hCle),xr (xC (xo e) hDle)⟩
 have old:∀b o,s2.heap.get? b=some o->h₁.get? b=some o:=fun b o e=>hkp b o (hHH ▸ xn _ e)
 have hacc:h₁.get? D=some { cls:=.type "list",dict:=none,data:=.seq ([]:List Value).toArray }:=hkp _ _ (hHH ▸ hDe ▸ xA _ rfl)
 have fpo:∀b∈fp,∃o,s2.heap.get? b=some o/\∀v,o.data≠.cell v:=T.obj _ _ st2
 have hlt:∀b∈fp,b<s2.heap.objs.size:=fun b hb=>by obtain⟨o,e,_⟩:=fpo b hb;exact xo e
 have hDf:D ∉ fp:=fun hm=>absurd (xC (hlt D hm) hDle) (vA _)
 have hcD:∀x c,cl.lookup x=some c->c≠D:=fun x c e z=>by
  rcases hcl.or e with q|q
  ·obtain⟨v,o,ho,_⟩:=I2.cell x c q
   exact(below c o ho).2 z
  ·exact absurd (xC q (by rw[z,hC];exact Nat.le_succ _)) (vA _)
 let Xc:=zAy X (own++fre) scope cl C s2 H2 fp
 have hnoS:∀b,s2.heap.objs.size<=b->b ∉ frs X.stack:=fun b hb z=>by
  rcases xm.mp (I2.stkSub b z)with z|z
  ·exact absurd (xC I2.lt hb) (by rw[z];exact vA _)
  ·exact I2.nofs hb z
 have loop:∀t',codeAny (model X.prog X.w) X.A (.compLoop (.ListComp elt [⟨tg,iter,ifs,0⟩] scope pos) 0 (.ref it) (.ref D) (compEnvC scope cl C X.env)) (RR (.ref D) C) { s2 with heap:=h₁,toks:=t' }:=by
  intro t'
  have I4:Inv Xc [] (zE5 own ix σ) H2 { s2 with heap:=h₁,toks:=t' }:=zNg I2 f2 hlt S hcl hnew hCle old hns₁
  refine zJn (fun n s'=>∃i ys σ' H' its k,Inv Xc [] σ' H' s'/\tn i s'.heap/\(∀b∈fp,H' b=none)/\H' D=none/\s'.heap.get? D=some ({ cls:=.type "list",data:=.seq (List.toArray its) k }:Obj)/\Vals ys its/\ys.length<=sizeLine/\W i n ys σ' H')
   ?_ m0 ⟨0,[],_,H2,[],_,I4,T.keep _ _ _ st2 (fun b _ o e=>old b o e),fun b hb=>(f2 b hb).1,I2.hok.fresh hDle,hacc,.nil,xR _,w0⟩
  rintro n s3 ⟨i,ys,σ3,H3,its,k,I3,st3,fr3,hD3,ho3,hv3,hz3,w3⟩
  have I3p:Inv Xc [(D,{ cls:=.type "list",data:=.seq (List.toArray its) k })] σ3 H3 s3:=I3.pins_of fun p hp=>by
   have e:p=(D,({ cls:=.type "list",data:=.seq (List.toArray its) k }:Obj)):=by simpa using hp
   subst e
   exact⟨ho3,hD3,hDC,hnoS D hDle,fun v z=>by cases z⟩
  have stat:∀{H':Hp},(∀b∈fp,H' b=none)->∀b∈fp,FpOk Xc [(D,({ cls:=.type "list",data:=.seq (List.toArray its) k }:Obj))] H' b:=fun hn b hb=>
   ⟨hn b hb,xr (xC (hlt b hb) hCle),I2.stkNo (f2 b hb),.inl hb,fun x c e=>(hcl.or e).elim (fun e=>(f2 b hb).2.2.2.2.1 x c e) fun z=>xw (xr (vH (xC (hlt b hb) hCle) z)),fun p hp z=>by
    have e:p=(D,({ cls:=.type "list",data:=.seq (List.toArray its) k }:Obj)):=by simpa[Xc,zAy]using hp
    rw[e]at z;exact hDf (by rw[show D=b from z];exact hb)⟩
  rcases turn i n ys σ3 H3 w3 with⟨stop,qn⟩|⟨go,hys,N,hN,step⟩
  ·refine thn (T.done Xc rfl rfl rfl hc i _ s3 σ3 H3 _ I3p (stat fr3) st3 stop) fun r s4 hq1=>?_
   obtain⟨hr,I4⟩:=hq1
   subst hr
   have ho4:=(I4.pin (D,_) (vc _ xQ)).1
   obtain⟨m',hn',_⟩:=I4.loc
   have un:Un (frs X.stack) fp H2 (upd H3 D (.lst ys)) s2.heap s4.heap:=Un.adopt (show Un (frs X.stack) fp H2 H3 s2.heap s4.heap from I4.base) hDle hD3
   have hok:HOk X.prog X.w (upd H3 D (.lst ys)) s4.heap:=HOk.adopt (show HOk X.prog X.w H3 s4.heap from I4.hok) hD3 ⟨hz3,its,_,hv3,ho4⟩
   have IX:Inv X pins σ (upd H3 D (.lst ys)) s4:=I2.call' (ch:=fp) I4.os un hok I4.bare fun b hb=>⟨(f2 b hb).2.2.2.1,(f2 b hb).2.1,(f2 b hb).2.2.2.2.1,(f2 b hb).2.2.2.2.2⟩
   exact hRR D C s4 m' ys H3 IX hn' (I2.fpOk hCle (by rw[zAq (xw hDC)];exact I4.free)) hD3 qn
  ·refine thn (T.item Xc rfl rfl rfl hc i _ s3 σ3 H3 _ I3p (stat fr3) st3 go) fun r s4 hq1=>?_
   obtain⟨u,hr,h4⟩:=hq1
   subst hr
   refine thn h4 fun _ s5 hq1=>?_
   obtain⟨x,H5,I5,r5,y5,st5,fr5⟩:=hq1
   have I5':=I5.pinned (stat fr5) (T.obj _ _ st5)
   refine thn (hg cl C _ s5 σ3 H5 x u _ I5' r5 (step x H5 y5)) fun _ s6 hq1=>?_
   obtain⟨σ6,H6,I6,q6⟩:=hq1
   refine thn (hi cl C _ s6 σ6 H6 _ I6 q6) fun b s7 hq1=>?_
   obtain⟨H7,I7,q7⟩:=hq1
   have keepT:∀{σ7:St}{H7:Hp}{s7:Shared}{h':Heap},Inv Xc ([(D,({ cls:=.type "list",data:=.seq (List.toArray its) k }:Obj))]++zJ0 fp s5.heap) σ7 H7 s7->(∀b o,b≠D->s7.heap.get? b=some o->h'.get? b=some o)->tn (i+1) h'/\∀b∈fp,H7 b=none:=fun {σ7 H7 s7 h'} I7 hk=>by
    refine⟨T.keep _ _ _ st5 fun b hb o e=>hk b o (fun z=>hDf (z ▸ hb)) (I7.pin (b,o) (vc _ (vc _ (zDt hb e)))).1,fun b hb=>?_⟩
    obtain⟨o,e,d⟩:=T.obj _ _ st5 b hb
    exact(I7.pin (b,o) (vc _ (vc _ (zDt hb e)))).2.1
   cases b with
   | false=>
    obtain⟨m',hm,w7⟩:=hN _ _ _ q7
    obtain⟨t7,f7⟩:=keepT (h':=s7.heap) I7 fun _ _ _ e=>e
    have pD:=I7.pin (D,_) (vc _ (vN _ xQ))
    exact⟨m',hm,i+1,ys,σ6,H7,its,k,I7.pins_of (fun p hp=>nomatch hp),t7,f7,pD.2.1,pD.1,hv3,hz3,w7⟩
   | true=>
    refine thn (he cl C _ s7 σ6 H7 _ I7 q7) fun y s8 hq1=>?_
    obtain⟨v,H8,I8,r8,n8⟩:=hq1
    obtain⟨m',hm,w8⟩:=hN _ _ _ n8
    have pD:=I8.pin (D,_) (vc _ (vN _ xQ))
    have hsz:its.toArray.size<=sizeLine:=by rw[xx,<- hv3.length];exact hz3
    refine wpAny_list_append_plain (hsz:=hsz) (show s8.heap.PlainList D its.toArray from⟨_,pD.1⟩) fun h₅ hl₅ hs₅=>?_
    obtain⟨t8,f8⟩:=keepT (h':=h₅) I8 fun b o hb e=>hs₅.extBut b o hb e
    obtain⟨k',ho5⟩:=hl₅
    have I9:Inv Xc [] σ6 H8 { s8 with heap:=h₅ }:=(I8.pins_of (pins':=[]) (fun p hp=>nomatch hp)).turned (it:=D) (t':=s8.toks) (fun b o hb e=>hs₅.extBut b o hb e) pD.2.1 hDC (.inr hDle) hcD fun p hp=>nomatch hp
    refine⟨m',hm,i+1,ys++[v],σ6,H8,its++[y],k',I9,t8,f8,pD.2.1,?_,hv3.append (.cons r8 .nil),(by rw[xy,vI];exact hys),w8⟩
    show h₅.get? D=_
    rw[ho5];simp
 exact codeAny_compStart_list (loop _) (T.self _ 0 _ _ _ (T.keep _ _ _ st2 (fun b _ o e=>old b o e)) (loop _))
end
noncomputable def zK7 (own:List Str) (ix:List Nat) (wi:TI) (g:TG) (tt:TT) (te:TE):TE:=fun σ H Q=>wi σ H fun J H1=>
 zTn J g tt te (zE5 own ix σ) H1 fun ys H2=>∀D,H2 D=none->Q (.ref D) (upd H2 D (.lst ys))
section
variable {X:Cx}{own fre:List Str}{ix:List Nat}{scope:Scope}
theorem zS4 {tg elt iter:Expr}{ifs:List Expr}{pos:Pos}{wi:TI}{g:TG}{tt:TT}{te:TE}(hc:X.calm=true) (S:CompScope X own fre ix scope) (hi:PI X tg iter wi)
  (hg:∀cl C s H fp,PG (zAy X (own++fre) scope cl C s H fp) tg g) (ht:∀cl C s H fp,PIfs (zAy X (own++fre) scope cl C s H fp) ifs tt) (he:∀cl C s H fp,PE (zAy X (own++fre) scope cl C s H fp) elt te)
  (hs:∀x,foldedSetIterable iter X.env x=pure x:=by intro _;rfl):PE X (.ListComp elt [⟨tg,iter,ifs,0⟩] scope pos) (zK7 own ix wi g tt te):=by
 intro pins s σ H Q I h
 obtain⟨cl,ecl,hcl,hcf⟩:=zEk (scope:=scope) (env:=X.env) fun y hy hf=>I.ok.has y.1 (S.fr y hy hf)
 rw[eval_ListComp]
 refine wpAny_comprehension_free (use:=none) rfl hs ecl S.kind S.loc (thn (hi pins s σ H _ I h) fun v s1 h1=>thn h1 fun itv s2 h2=>?_)
 obtain⟨it,fp,tn,J,H2,e,I2,T,st2,f2,q⟩:=h2
 subst e
 refine zHd (RR:=fun acc C=>compPost (model X.prog X.w) X.A X.xe none (EP X pins σ Q) acc C) I2 T st2 f2 hc S hcl hcf (fun cl C=>hg _ _ _ _ _) (fun cl C=>ht _ _ _ _ _) (fun cl C=>he _ _ _ _ _) q ?_
 intro D C s' m' ys H' IX hn fC hD qd
 refine⟨m',hn,fun h' hs'=>?_⟩
 exact⟨.ref D,_,IX.turned (it:=C) (t':=s'.toks) (fun b o hb e=>hs'.extBut b o hb e) fC.1 fC.2.1 fC.2.2.2.1 fC.2.2.2.2.1 fC.2.2.2.2.2,rfl,qd D hD⟩
theorem zVb {i:Nat}{x:Str}{pos':Pos}{tg elt iter:Expr}{ifs:List Expr}{pos cpos:Pos}{wi:TI}{g:TG}{tt:TT}{te:TE}(hN:X.N.Nodup) (hix:X.N[i]?=some x) (hx:Loc X.env.scope x)
  (hc:X.calm=true) (S:CompScope X own fre ix scope) (hi:PI X tg iter wi)
  (hg:∀cl C s H fp,PG (zAy X (own++fre) scope cl C s H fp) tg g) (ht:∀cl C s H fp,PIfs (zAy X (own++fre) scope cl C s H fp) ifs tt) (he:∀cl C s H fp,PE (zAy X (own++fre) scope cl C s H fp) elt te)
  (hsw:swapsWith (.ListComp elt [⟨tg,iter,ifs,0⟩] scope cpos) (some (.Name x pos')) pos.line X.env=pure true:=by rfl)
  (hs:∀x,foldedSetIterable iter X.env x=pure x:=by intro _;rfl) (hf:X.fn x=true\/X.env.scope.names.lookup x=some .local:=by first|exact .inl rfl|exact .inr rfl|assumption):
  PS X (.Assign [.Name x pos'] (.ListComp elt [⟨tg,iter,ifs,0⟩] scope cpos) pos) (tAsg (zK7 own ix wi g tt te) (gName i)):=by
 intro pins s σ H D I h
 obtain⟨cl,ecl,hcl,hcf⟩:=zEk (scope:=scope) (env:=X.env) fun y hy hf=>I.ok.has y.1 (S.fr y hy hf)
 rw[exec_Assign_Name_used _ _ _ _ hsw]
 refine xa (wpAny_standAt (xa ?_))
 show wpAny _ X.A (do let _ <- comprehension (.ListComp elt [⟨tg,iter,ifs,0⟩] scope cpos) scope X.env _ (newList []) false (eval iter X.env) (some (assign (.Name x pos') X.env))) _ _ s
 refine xa (vB (wpAny_comprehension_free (use:=some (assign (.Name x pos') X.env)) (Q:=fun _ s'=>SP X pins D .next s') rfl hs ecl S.kind S.loc
  (thn (hi pins s σ H _ I h) fun v s1 h1=>thn h1 fun itv s2 h2=>?_)) (fun _ s' hq=>xh (xh hq)) fun _ _ e=>e)
 obtain⟨it,fp,tn,J,H2,e,I2,T,st2,f2,q⟩:=h2
 subst e
 refine zHd (RR:=fun acc C=>compPost (model X.prog X.w) X.A X.xe (some (assign (.Name x pos') X.env)) (fun _ s'=>SP X pins D .next s') acc C) I2 T st2 f2 hc S hcl hcf (fun cl C=>hg _ _ _ _ _) (fun cl C=>ht _ _ _ _ _) (fun cl C=>he _ _ _ _ _) q ?_
 intro D' C s' m' ys H' IX hn fC hD qd
 show wpAny _ X.A (assign (.Name x pos') X.env (.ref D')) _ _ _
 refine wpAny_assign_Name (zIu (v:=.ref D') IX hN hix hx rfl (fun s'' I'' hsb=>?_) hf)
 obtain⟨a,hsb,ha⟩:=hsb
 have hCa:C≠a:=by
  rcases ha with z|z
  ·rw[z];exact fC.2.1
  ·exact xw (fC.2.2.2.2.1 x a z)
 refine⟨m',hn.sameBut hsb hCa,fun h' hs'=>?_⟩
 exact⟨_,_,I''.turned (it:=C) (t':=s''.toks) (fun b o hb e=>hs'.extBut b o hb e) fC.1 fC.2.1 fC.2.2.2.1 fC.2.2.2.2.1 fC.2.2.2.2.2,qd D' hD⟩
end
end L2
namespace LX
open PySem
open Sem (wp)
theorem zSe:typeLookup (.type "list_reverseiterator") "__len__"=pure none:=by rw[yk,ym];kernel_rfl
theorem zWl:typeLookup (.type "list_reverseiterator") "__length_hint__"=pure (some (.builtin "list_reverseiterator.__length_hint__")):=by rw[yk,ym];kernel_rfl
section
variable {prog:Program}{w:World}{A:Around}{E:Value->Shared->Prop}{s:Shared}
theorem zNa {R:Result->Shared->Prop}{I l:Addr}{items:Array Value}(hh:A.handled=none) (hne:l≠I) (hit:s.heap.IsRevIter I l ((items.size:Int)-1)) (hl:s.heap.IsList l items)
  (S:Addr) (res:Value) (c₀:Nat) (hSI:S≠I) (hSl:S≠l) (hS:s.heap.get? S=some { cls:=.type "list",data:=.seq #[] c₀ }) (hn:items.size<=sizeLine)
  (hR:∀h' tk acc' c',(∀b o,b≠S->b≠I->s.heap.get? b=some o->h'.get? b=some o)->h'.get? S=some { cls:=.type "list",dict:=none,data:=.seq acc' c',slots:=#[] }->
   ItemsOf (fun i v=>items[items.size-1-i]?=some v) acc' items.size->R (.ok (.ret res)) { s with heap:=h',toks:=tk }):
  wpAny (model prog w) A.in1 (Builtin.List.listExtendWith (.ref S) (.ref I) res)
   (fun fin s'=>match fin with|.done f=>R (.ok f) s'|.again c'=>c'.quiet=true/\codeAny (model prog w) A c' R s') (fun e s'=>R (.error e) s') s:=by
 have W:=(Walks.listRev (prog:=prog) (w:=w) (A:=A.in1) hh I l hne items).toS
 have st:0<=items.size/\s.heap.IsRevIter I l ((items.size:Int)-1-((0:Nat):Int))/\s.heap.IsList l items:=⟨xR _,by simpa using hit,hl⟩
 have hT:s.TypeIs (.ref I) "list_reverseiterator":=hit.typeIs
 have hSf:S ∉ [I,l]:=fun hm=>by
  rcases xm.mp hm with z|z
  ·exact hSI z
  ·exact hSl (xF.mp z)
 have h1:Builtin.List.listSameRef (.ref S) (.ref I)=false:=by simp[Builtin.List.listSameRef,hSI]
 unfold Builtin.List.listExtendWith
 refine xa (vY hT ?_)
 rw[xg (by rw[h1];decide)]
 refine xa (wpAny_pyIter_revIter hit ?_)
 refine xa (xK ?_)
 unfold Builtin.List.listLengthHint
 refine xa (ui hT zSe ?_)
 show wpAny _ A.in1 (specialOf (Value.ref I) (Str.ofString "__length_hint__") >>= _) _ _ _
 refine xa (ui hT zWl ?_)
 (generalize hid:("list_reverseiterator.__length_hint__":String)=id0;(fail_if_success (clear hid id0));wp_delta;rw[show splitId id0=some ("list_reverseiterator","__length_hint__")from by subst hid;decide +kernel];subst hid)
 refine xa (uj (b:=true) hT (by rw[isSubtype_type];kernel_rfl) ?_)
 refine xh ?_
 rw[xg (by decide)]
 refine xh ⟨u3 F.plain_extend_loop _,codeAny_extend_loopS W hn _ hSf _ items.size 0 _ _ _ rfl (xR _) st hS (ItemsOf.nil _) fun s' acc' c' hm hS' hacc=>?_⟩
 rw[Moved.eq_with hm]
 refine hR s'.heap s'.toks acc' c' (fun b o hb hb' e=>hm.heap b o (fun hmem=>?_) e) hS' hacc
 rcases xm.mp hmem with z|z
 ·exact hb z
 ·exact hb' (xF.mp z)
theorem zSt {R:Result->Shared->Prop}{I l:Addr}{items:Array Value}(hh:A.handled=none) (hne:l≠I) (hit:s.heap.IsRevIter I l ((items.size:Int)-1)) (hl:s.heap.IsList l items)
  (S:Addr) (hSI:S≠I) (hSl:S≠l) (hS:s.heap.get? S=some { cls:=.type "list",data:=.seq #[] }) (hn:items.size<=sizeLine)
  (hR:∀h' tk acc' c',(∀b o,b≠S->b≠I->s.heap.get? b=some o->h'.get? b=some o)->h'.get? S=some { cls:=.type "list",dict:=none,data:=.seq acc' c',slots:=#[] }->
   ItemsOf (fun i v=>items[items.size-1-i]?=some v) acc' items.size->R (.ok (.ret .none)) { s with heap:=h',toks:=tk }):
  wpAny (model prog w) A.in1 (Builtin.«list.__init__» ⟨[.ref S,.ref I],[]⟩)
   (fun fin s'=>match fin with|.done f=>R (.ok f) s'|.again c'=>c'.quiet=true/\codeAny (model prog w) A c' R s') (fun e s'=>R (.error e) s') s:=by
 show wpAny _ A.in1 (do let old <- Builtin.List.listItems (.ref S);Builtin.List.listUpdate (.ref S) (fun _=>#[]);letGo old.toList.reverse;Builtin.List.listExtendWith (.ref S) (.ref I) .none) _ _ s
 refine xa ?_
 unfold Builtin.List.listItems
 refine xa (vD hS rfl (xh ?_))
 show wpAny _ A.in1 (updateSeq S (fun _=>#[]) >>= fun _=>letGo (#[]:Array Value).toList.reverse >>= fun _=>Builtin.List.listExtendWith (.ref S) (.ref I) .none) _ _ s
 refine xa (wpAny_updateSeq hS rfl ?_)
 have hS₂:=u4 (Obj.mapSeq (fun _=>(#[]:Array Value))) hS rfl
 have oth:∀b o,b≠S->s.heap.get? b=some o->(s.heap.update S (Obj.mapSeq (fun _=>(#[]:Array Value)))).get? b=some o:=
  fun b o hb e=>(yh _ _ (xw hb)).trans e
 refine xa (wpAny_letGo ?_)
 refine zNa hh hne (hit.at fun o e=>oth I o (xw hSI) e) (hl.at fun o e=>oth l o (xw hSl) e) S .none _ hSI hSl hS₂ hn fun h' tk acc' c' hk hS' hacc=>?_
 exact hR h' tk acc' c' (fun b o hb hb' e=>hk b o hb hb' (oth b o hb e)) hS' hacc
theorem call_list_rev {Q:Value->Shared->Prop}{I l:Addr}{items:Array Value}(hh:A.handled=none) (hne:l≠I) (hit:s.heap.IsRevIter I l ((items.size:Int)-1)) (hl:s.heap.IsList l items) (hn:items.size<=sizeLine)
  (hQ:∀h' tk acc' c',(∀b o,b≠I->s.heap.get? b=some o->h'.get? b=some o)->h'.get? s.heap.objs.size=some { cls:=.type "list",dict:=none,data:=.seq acc' c',slots:=#[] }->
   ItemsOf (fun i v=>items[items.size-1-i]?=some v) acc' items.size->Q (.ref s.heap.objs.size) { s with heap:=h',toks:=tk }):wpAny (model prog w) A (call (.type "list") [.ref I]) Q E s:=by
 refine callType_codes (Q₁:=fun obj s₁=>obj=.ref s.heap.objs.size/\s₁={ s with heap:=s.heap.push { cls:=.type "list",data:=.seq #[] } }) F.called_list (F.typeCall_list_1 _) F.entry_list_init
  (code_list_new _ ⟨rfl,rfl⟩) fun obj s₁ h₁=>?_
 obtain⟨rfl,rfl⟩:=h₁
 have hS:(s.heap.push { cls:=.type "list",data:=.seq #[] }).get? s.heap.objs.size=some { cls:=.type "list",data:=.seq #[] }:=xA _ rfl
 have nI:s.heap.objs.size≠I:=by obtain⟨o,ho,_⟩:=hit;exact xw (xr (xo ho))
 have nl:s.heap.objs.size≠l:=by obtain⟨o,ho,_⟩:=hl;exact xw (xr (xo ho))
 refine⟨⟨_,hS,rfl⟩,F.args_list_init_2 _ _,zSt (A:=A.in1) hh hne (hit.at fun o e=>xn _ e) (hl.at fun o e=>xn _ e) _ nI nl hS hn fun h' tk acc' c' hk hS' hacc=>?_⟩
 exact⟨rfl,hQ h' tk acc' c' (fun b o hb e=>hk b o (xr (xo e)) hb (xn _ e)) hS' hacc⟩
end
end LX
namespace L2
open PySem PySem.Spec PyProof.Rows
section
variable {X:Cx}
noncomputable def zHn (K:PySem.W.Frag) (te:TE):TE:=fun σ H Q=>te σ H fun x H1=>∃a xs,x=.ref a/\SqL K H1 a xs/\∀l,H1 l=none->Q (.ref l) (upd H1 l (.lst xs.reverse))
theorem zK5 {xs:List V}{its:List Value}{acc:Array Value}(r:Vals xs its) (h:ItemsOf (fun i v=>its.toArray[its.toArray.size-1-i]?=some v) acc its.toArray.size):acc.toList=its.reverse:=by
 obtain⟨hs,hi⟩:=h
 have hs':acc.size=its.length:=by simpa using hs
 refine List.ext_getElem? fun j=>?_
 rcases vC j its.length with hj|hj
 ·have e1:acc[j]?=some (acc[j]'(by nofun)):=vx (by nofun)
  have e2:=hi j _ e1
  rw[uZ,e1,List.getElem?_reverse hj,<- e2]
  simp
 ·rw[vT (by simpa[hs']using hj),vT (by simpa using hj)]
theorem zMt {e:Expr}{te:TE}{p p2 pos pos2:Pos}(hc:X.calm=true) (he:PE X e te) (hgl:Gl X "list") (hml:X.mg "list"=none) (hgr:Gl X "reversed") (hmr:X.mg "reversed"=none)
  (hs:starEach [e] X.env=[(false,eval e X.env)]:=by rfl)
  (hs2:starEach [Expr.Call (.Name "reversed" p2) [e] [] pos2] X.env=[(false,eval (.Call (.Name "reversed" p2) [e] [] pos2) X.env)]:=by rfl):
  PE X (.Call (.Name "list" p) [.Call (.Name "reversed" p2) [e] [] pos2] [] pos) (zHn X.K te):=by
 intro pins s σ H Q I h
 refine uE (zE3 I hgl hml PyProof.Rows.boot_list ?_)
 refine uD ?_ hs2 rfl
 rw[hs2]
 show wpAny _ _ (spliced ((false,eval (.Call (.Name "reversed" p2) [e] [] pos2) X.env)::backTo pos [])) _ _ s
 refine uV ?_
 refine uE (zE3 I hgr hmr PyProof.Rows.boot_reversed ?_)
 refine uD ?_ hs rfl
 rw[hs]
 show wpAny _ _ (spliced ((false,eval e X.env)::backTo pos2 [])) _ _ s
 refine uV (thn (he pins s σ H _ I h) fun u s1 hq1=>?_)
 obtain⟨x,H1,I1,r1,a,xs,ex,hq,q⟩:=hq1
 subst ex
 cases r1
 refine uU ?_
 obtain⟨its,rv,pl,hz⟩:=I1.list hq
 refine call_reversed_list pl.isList ?_
 refine uU ?_
 have I2:Inv X pins σ H1 { s1 with heap:=s1.heap.push (revObj a ((its.toArray.size:Int)-1)) }:=I1.kept (t':=s1.toks) fun b o e=>xn _ e
 have hne:a≠s1.heap.objs.size:=by obtain⟨o,ho,_⟩:=pl.isList;exact xr (xo ho)
 refine LX.call_list_rev (items:=its.toArray) (I.ok.hd hc) hne ⟨_,xA _ rfl,rfl,rfl⟩ (pl.isList.at fun o e=>xn _ e) (by simpa[<- rv.length]using hz) fun h' tk acc c kp ho hi=>?_
 have hfr:H1 s1.heap.objs.size=none:=I1.hok.fresh (xi _)
 have fp:FpOk X pins H1 s1.heap.objs.size:=I1.fpOk (xi _) hfr
 have I3:Inv X pins σ H1 { s1 with heap:=h',toks:=tk }:=Inv.turned (s:={ s1 with heap:=s1.heap.push (revObj a ((its.toArray.size:Int)-1)) }) (it:=s1.heap.objs.size) (h':=h') (t':=tk) I2 (fun b o hb e=>kp b o hb e) fp.1 fp.2.1 fp.2.2.2.1 fp.2.2.2.2.1 fp.2.2.2.2.2
 generalize hDD:(s1.heap.push (revObj a ((its.toArray.size:Int)-1))).objs.size=D at ho ⊢
 have hD:H1 D=none:=by rw[<- hDD];exact I2.hok.fresh (xi _)
 have fD:FpOk X pins H1 D:=I2.fpOk (by rw[<- hDD];exact xi _) hD
 have e1:acc.toList=its.reverse:=zK5 rv hi
 have ho':h'.get? D=some { cls:=.type "list",dict:=none,data:=.seq (its.reverse).toArray c,slots:=#[] }:=by rw[ho,<- e1]
 have hok:HOk X.prog X.w (upd H1 D (.lst xs.reverse)) h':=HOk.adopt I3.hok hD ⟨by rw[yG];exact hz,_,_,rv.reverse,ho'⟩
 have I4:Inv X pins σ (upd H1 D (.lst xs.reverse)) { s1 with heap:=h',toks:=tk }:=by
  refine Inv.call' (s:={ s1 with heap:=s1.heap.push (revObj a ((its.toArray.size:Int)-1)) }) (s':={ s1 with heap:=h',toks:=tk }) (ch:=[s1.heap.objs.size]) I2 rfl ?_ hok I3.bare fun b hb=>?_
  ·have ne:∀b,b ∉ [s1.heap.objs.size]->b≠s1.heap.objs.size:=fun b hb z=>hb (by simp[z])
   exact⟨fun b o e _ _ hx=>kp b o (ne b hx) e,fun b o e _ _ hx=>⟨o.slots,kp b o (ne b hx) e⟩,fun b o e n _=>by
     rw[zAq (xr (xC (xo e) (by rw[<- hDD];exact xi _)))];exact n,fun b o e hx=>⟨o,kp b o (ne b hx) e⟩,
    fun b ys e=>by rw[zAq (zAm e hD)];exact e,fun b o u e=>by rw[zAq (zAm e hD)];exact e,fun b ps e=>⟨#[],by rw[zAq (zAm e hD),e];simp⟩⟩
  ·have e:b=s1.heap.objs.size:=by simpa using hb
   subst e
   exact⟨fp.2.2.2.1,fp.2.1,fp.2.2.2.2.1,fp.2.2.2.2.2⟩
 exact⟨.ref D,_,I4,rfl,q D hD⟩
theorem zEc {A:Around}{P:Program}{w:World}{bs:List Bool}{its:List Value}(r:Vals (bs.map V.bl) its):TruthOf P w A (fun i v=>its.toArray[i]?=some v) (fun i=>bs.getD i false):=by
 intro i v s Q E hv hq
 have hv':its[i]?=some v:=by simpa using hv
 have hlt:i<its.length:=(xH.mp hv').1
 have hl:=r.length
 rw[xp]at hl
 have hb:(bs.map V.bl)[i]?=some (V.bl (bs[i]'(by nofun))):=by rw[vm,xD (by nofun)];rfl
 obtain⟨u,hu,ru⟩:=r.get hb
 rw[hv']at hu
 cases hu
 cases ru
 dsimp only at hq
 rw[vU,xD (by nofun)]at hq
 exact vW hq
theorem zGt:∀bs:List Bool,((List.range bs.length).all fun i=>bs.getD i false)=bs.all id:=by
 intro bs
 rw[u5,vS,vS]
 constructor
 ·intro h b hb
  obtain⟨i,hi,rfl⟩:=v8.mp hb
  have:=h i (vq.mpr hi)
  simpa[vU,hi]using this
 ·intro h i hi
  have hi':=vq.mp hi
  have:=h bs[i] (vJ hi')
  simpa[vU,hi']using this
theorem zGs:∀bs:List Bool,((List.range bs.length).any fun i=>bs.getD i false)=bs.any id:=by
 intro bs
 rw[u5,yn,yn]
 constructor
 ·rintro⟨i,hi,h⟩
  have hi':=vq.mp hi
  exact⟨bs[i],vJ hi',by simpa[vU,hi']using h⟩
 ·rintro⟨b,hb,h⟩
  obtain⟨i,hi,rfl⟩:=v8.mp hb
  exact⟨i,vq.mpr hi,by simpa[vU,hi]using h⟩
theorem zQv (hc:X.calm=true):zBs X (.builtin "all") (fun xs H Q=>∃(p:Addr) (bs:List Bool),xs=[.ref p]/\SqL X.K H p (bs.map V.bl)/\Q (.bl (bs.all id)) H):=by
 intro pins s σ H xs us Q I r h
 obtain⟨p,bs,rfl,hq,q⟩:=h
 obtain⟨u,rfl,rx⟩:=vals1 r
 cases rx
 obtain⟨its,rv,pl,hz⟩:=I.list hq
 have hl:=rv.length
 rw[xp]at hl
 have hne:p≠s.heap.objs.size:=by obtain⟨o,ho,_⟩:=pl.isList;exact xr (xo ho)
 refine call_all_walk (v9 pl.isList ?_)
 refine⟨_,_,_,_,_,_,_,rfl,Walks.list (A:=X.A.in1) (I.ok.hd hc) _ p hne its.toArray,⟨⟨_,xA _ rfl,rfl,rfl⟩,pl.isList.at fun o e=>xn _ e⟩,zEc rv,fun h' tk hk=>?_⟩
 have hfr:H s.heap.objs.size=none:=I.hok.fresh (xi _)
 have fp:FpOk X pins H s.heap.objs.size:=I.fpOk (xi _) hfr
 have e:((List.range its.toArray.size).all fun i=>bs.getD i false)=bs.all id:=by rw[xx,<- hl];exact zGt bs
 rw[e]
 exact⟨.bl (bs.all id),H,Inv.turned (it:=s.heap.objs.size) (h':=h') (t':=tk) (I.kept (t':=s.toks) fun b o e=>xn _ e) (fun b o hb e=>hk b o (by simpa using hb) e) fp.1 fp.2.1 fp.2.2.2.1 fp.2.2.2.2.1 fp.2.2.2.2.2,rfl,q⟩
theorem zQu (hc:X.calm=true):zBs X (.builtin "any") (fun xs H Q=>∃(p:Addr) (bs:List Bool),xs=[.ref p]/\SqL X.K H p (bs.map V.bl)/\Q (.bl (bs.any id)) H):=by
 intro pins s σ H xs us Q I r h
 obtain⟨p,bs,rfl,hq,q⟩:=h
 obtain⟨u,rfl,rx⟩:=vals1 r
 cases rx
 obtain⟨its,rv,pl,hz⟩:=I.list hq
 have hl:=rv.length
 rw[xp]at hl
 have hne:p≠s.heap.objs.size:=by obtain⟨o,ho,_⟩:=pl.isList;exact xr (xo ho)
 refine call_any_walk (v9 pl.isList ?_)
 refine⟨_,_,_,_,_,_,_,rfl,Walks.list (A:=X.A.in1) (I.ok.hd hc) _ p hne its.toArray,⟨⟨_,xA _ rfl,rfl,rfl⟩,pl.isList.at fun o e=>xn _ e⟩,zEc rv,fun h' tk hk=>?_⟩
 have hfr:H s.heap.objs.size=none:=I.hok.fresh (xi _)
 have fp:FpOk X pins H s.heap.objs.size:=I.fpOk (xi _) hfr
 have e:((List.range its.toArray.size).any fun i=>bs.getD i false)=bs.any id:=by rw[xx,<- hl];exact zGs bs
 rw[e]
 exact⟨.bl (bs.any id),H,Inv.turned (it:=s.heap.objs.size) (h':=h') (t':=tk) (I.kept (t':=s.toks) fun b o e=>xn _ e) (fun b o hb e=>hk b o (by simpa using hb) e) fp.1 fp.2.1 fp.2.2.2.1 fp.2.2.2.2.1 fp.2.2.2.2.2,rfl,q⟩
end
end L2
namespace L2
open PySem PySem.Spec PyProof.Rows
inductive Dv where
 | non|bl (b:Bool)|int (i:Int)|str (x:Str)|tup (l:List Dv)|lst (l:List Dv)
mutual
noncomputable def Dv.cmp:Dv->Dv->Bool
 | .non,.non=>true
 | .bl _,.bl _=>true
 | .int _,.int _=>true
 | .str _,.str _=>true
 | .tup a,.tup b=>cmpL a b
 | .lst a,.lst b=>cmpL a b
 | _,_=>false
noncomputable def cmpL:List Dv->List Dv->Bool
 | a::r,b::t=>a.cmp b && cmpL r t
 | _,_=>true
end
section
variable {X:Cx}{pins:List (Addr × Obj)}{σ:St}{H:Hp}{s:Shared}
noncomputable def gLst (K:PySem.W.Frag) (n:Nat) (t:TGs):TG:=fun v σ H Q=>∃a xs,v=.ref a/\SqL K H a xs/\xs.length=n/\t xs σ H Q
theorem zM8 {prog:Program}{w:World}{A:Around}{E:Value->Shared->Prop}{it t:Addr}{items:Array Value}(hne:t≠it):∀(n i:Nat) (s:Shared) (Q:List Value->Shared->Prop),s.heap.IsListIter it t i->s.heap.IsList t items->i+n<=items.size->
  (∀h',h'.IsListIter it t (i+n)->Heap.SameBut it s.heap h'->Q ((items.toList.drop i).take n) { s with heap:=h' })->wpAny (model prog w) A (draw (.ref it) n) Q E s
 | 0,i,s,Q,hit,_,_,hQ=>by
  show wpAny _ _ (pure []) Q E s
  exact xh (by simpa using hQ s.heap hit (Heap.SameBut.refl ..))
 | n+1,i,s,Q,hit,ht,hle,hQ=>by
  have hlt:i<items.size:=by nofun
  show wpAny _ _ (pyNext (.ref it) >>= _) Q E s
  refine xa (wpAny_pyNext_list_item hit ht (x:=items[i]) (by simp[hlt]) fun h₁ hit₁ hs₁=>?_)
  refine xa (xK (zM8 hne n (i+1) { s with heap:=h₁ } _ hit₁ (ht.at fun o e=>hs₁.extBut t o hne e) (by nofun) fun h₂ hit₂ hs₂=>xh ?_))
  have hd:items.toList.drop i=items[i]::items.toList.drop (i+1):=by simp[List.drop_eq_getElem_cons,hlt]
  have:=hQ h₂ (by rw[show i+(n+1)=i+1+n by nofun];exact hit₂) (hs₁.trans hs₂)
  rw[hd,List.take_succ_cons]at this
  exact this
theorem zFk {prog:Program}{w:World}{A:Around}{E:Value->Shared->Prop}{s:Shared}{t:Addr}{items:Array Value}{Q:List Value->Shared->Prop}(hh:A.handled=none) (ht:s.heap.IsList t items)
  (hQ:∀h',Heap.ExtBut s.heap.objs.size s.heap h'->Q items.toList { s with heap:=h' }):wpAny (model prog w) A (unpackItems (.ref t) items.size none) Q E s:=by
 have hlt:t≠s.heap.objs.size:=by obtain⟨o,ho,_⟩:=ht;exact xr (xo ho)
 unfold unpackItems
 refine xa ?_
 ·unfold notIterableAtAll
  refine xa (ui ht.typeIs slot_list_iter.lookup ?_)
  refine xh ?_
  simp only[vo,xV]
  refine xa (xK (v9 ht ?_))
  refine xa (xK (zM8 hlt items.size 0 _ _ ⟨_,xA _ rfl,rfl,rfl⟩ (ht.at fun o e=>xn _ e) (by nofun) fun h₁ hit₁ hs₁=>?_))
  have hall:List.take items.size (List.drop 0 items.toList)=items.toList:=by
   rw[List.drop_zero];exact yH (by simp)
  rw[hall]
  rw[xg (by simp)]
  have ht₁:h₁.IsList t items:=ht.at fun o e=>hs₁.extBut t o hlt (xn _ e)
  refine xa (xK (wpAny_pyNext_list_end hh hit₁ ht₁ (by simp) fun h₂ he₂=>?_))
  simp only[Option.isSome_none,vo,xV]
  refine xh (hQ h₂ fun b o hb e=>he₂ b o hb (hs₁.extBut b o hb (xn _ e)))
theorem zYh {es:List Expr}{k:Nat}{t:TGs}{n:Nat}{pos:Pos}(hc:X.calm=true) (h:PGs X es t)
  (hn:(assignEach es X.env).length=n:=by rfl) (hst:(assignEach es X.env).findIdx? (·.1)=none:=by rfl):PG X (.Tuple es k pos) (gLst X.K n t):=by
 intro pins s σ H v u Q I r hw
 obtain⟨a,xs,e1,hq,hl,hw⟩:=hw
 subst e1
 cases r
 obtain⟨its,rv,ht,hz⟩:=I.list hq
 rw[assign_Tuple]
 refine xa (wpAny_standAt ?_)
 unfold unpack
 rw[hst,hn,show n=its.toArray.size by rw[xx,<- rv.length,hl]]
 refine xa (xK (zFk (I.ok.hd hc) ht.isList fun h' hx=>?_))
 have I1:Inv X pins σ H { s with heap:=h' }:=I.kept (t':=s.toks) fun b o e=>hx b o (xr (xo e)) e
 exact h pins _ σ H xs _ Q I1 (by simpa using rv) hw
end
end L2
namespace L2
open PySem PySem.Spec PyProof.Rows
structure Cal (P:Program) (w:World) (K:PySem.W.Frag) (mg:Str->Option Value) (base:Heap) (x:Str) (k:Nat) (ps:List Str) (sp:Sp):Prop where
 ex:∃f fd,FnOk P w K mg base CX0 k f fd ps sp/\mg x=some (.ref f)/\PySem.W.keepIn K (.ref f)=true/\Binds K fd ps []
section
variable {X:Cx}{x:Str}{k:Nat}{ps:List Str}{sp:Sp}{e:Expr}{es:List Expr}{t:TA}{p pos:Pos}
theorem zYs (C:Cal X.prog X.w X.K X.mg X.base x k ps sp) (hr:Room k X.A) (hg:Gl X x) (ha:PA X (e::es) t) (hdb:(x == ("__debug__":Str))=false:=by decide)
  (hs:starEach (e::es) X.env=(false,eval e X.env)::starEach es X.env:=by rfl) (hpl:(backTo pos (starEach es X.env)).any (·.1)=false:=by rfl):
  PE X (.Call (.Name x p) (e::es) [] pos) (zRc sp [] E0 t):=by
 obtain⟨f,fd,F,hm,hk,hb⟩:=C.ex
 exact zVr F hr hg hm hk hb .nil pass0 ha hdb hs hpl
end
end L2
namespace L2
open PySem PySem.Spec PyProof.Rows
noncomputable def nst:Expr->Bool
 | .Starred ..=>false
 | _=>true
theorem zBw {e:Expr}{es:List Expr}{env:Env}(h:nst e=true):starEach (e::es) env=(false,eval e env)::starEach es env:=by
 cases e <;> first|rfl|cases h
theorem zGi {env:Env}{pos:Pos}:∀{es:List Expr},es.all nst=true->(backTo pos (starEach es env)).any (·.1)=false
 | [],_=>rfl
 | e::es,h=>by
  simp only[uk,xM]at h
  rw[zBw h.1]
  show(false || (backTo pos (starEach es env)).any (·.1))=false
  rw[zGi h.2];rfl
noncomputable def nsl:Expr->Bool
 | .Slice ..=>false
 | _=>true
theorem zRx {b:Expr}(h:nsl b=true):zR7 b:=fun o i=>by cases b <;> first|rfl|cases h
noncomputable def nco:Expr->Bool
 | .ListComp ..|.SetComp ..|.DictComp ..=>false
 | _=>true
theorem zHo {e:Expr}{tg:Option Expr}{l:Nat}{env:Env}(h:nco e=true):swapsWith e tg l env=pure false:=by cases e <;> first|rfl|cases h
theorem zUr {e:Expr}{tg:Expr}{l:Nat}{env:Env}(h:nco e=true):swapsWithSole [tg] e l env=pure false:=zHo h
theorem zHq {e:Expr}{es:List Expr}{k:Nat}{p:Pos}{l:Nat}{env:Env}:swapsWithSole [.Tuple es k p] e l env=pure false:=by
 show swapsWith e (some (.Tuple es k p)) l env=pure false
 cases e <;> rfl
noncomputable def ntu:Expr->Bool
 | .Tuple ..=>false
 | _=>true
theorem zO4 {e:Expr}{tg:Expr}{env:Env}(h:ntu e=true):swappedStores [tg] e env=pure none:=by
 cases tg with
 | Tuple _ _ _=>cases e with
  | Tuple _ _ _=>cases h
  | _=>rfl
 | List _ _=>cases e with
  | Tuple _ _ _=>cases h
  | _=>rfl
 | _=>rfl
theorem zGn {tg:Expr}{es:List Expr}{env:Env}(h:nst tg=true):(assignEach (tg::es) env).map (·.2)=assign tg env::(assignEach es env).map (·.2):=by cases tg <;> first|rfl|cases h
theorem zBq {env:Env}:∀{es:List Expr},es.all nst=true->(assignEach es env).length=es.length/\(assignEach es env).findIdx? (·.1)=none
 | [],_=>⟨rfl,rfl⟩
 | e::es,h=>by
  simp only[uk,xM]at h
  obtain⟨h1,h2⟩:=zBq (env:=env) h.2
  have e1:assignEach (e::es) env=(false,assign e env)::assignEach es env:=by
   have:=h.1
   cases e <;> first|rfl|cases this
  rw[e1]
  refine⟨by rw[xE,h1,xE],?_⟩
  rw[List.findIdx?_cons]
  simp[h2]
noncomputable def nse:Expr->Bool
 | .Set ..=>false
 | _=>true
theorem zHs {e:Expr}{env:Env}(h:nse e=true) (x:Value):foldedSetIterable e env x=pure x:=by cases e <;> first|rfl|cases h
noncomputable def nba:Expr->Bool
 | .Call ..=>false
 | _=>true
theorem zGh {o:Expr}{m:Str}{env:Env}(h:nba o=true):attributeBase o m env (eval o env)=eval o env:=by cases o <;> first|rfl|cases h
noncomputable def ntt:Expr->Bool
 | .UnaryOp ..|.BoolOp ..|.IfExp ..|.Compare ..=>false
 | _=>true
theorem zUk {e:Expr}{env:Env}(h:ntt e=true) (whole:Sem Value):isTrue e env whole=(do let v <- whole;standAt e.pos;holding [v] (truthy v)):=by cases e <;> first|rfl|cases h
section
variable {X:Cx}{e o i a b:Expr}{es:List Expr}{te ta tb to ti:TE}{t:TA}{p pos cpos apos:Pos}
theorem qa (ha:PE X e te) (hr:PA X es t) (h:nst e=true:=by rfl):PA X (e::es) (zUp te t):=zVu ha hr (zBw h)
theorem qix {r:R2}(hr:IxR X r) (ha:PE X a ta) (hb:PE X b tb) (h:nsl b=true:=by rfl):PE X (.Subscript a b pos) (tOp r ta tb):=yAt hr ha hb (zRx h)
theorem qcal {x:Str}{k:Nat}{ps:List Str}{sp:Sp}(C:Cal X.prog X.w X.K X.mg X.base x k ps sp) (hr:Room k X.A) (hg:Gl X x) (ha:PA X (e::es) t) (hdb:(x == ("__debug__":Str))=false:=by decide)
  (h:(e::es).all nst=true:=by rfl):PE X (.Call (.Name x p) (e::es) [] pos) (zRc sp [] E0 t):=by
 simp only[uk,xM]at h
 exact zYs C hr hg ha hdb (zBw h.1) (zGi h.2)
theorem zY6 {x:Str}{id:String}{r:List V->Hp->VK->Prop}(hc:zBs X (.builtin id) r) (hg:Gl X x) (hm:X.mg x=none) (hv:bootBuiltins x=some (.builtin id)) (ha:PA X (e::es) t) (hn:x≠"__name__":=by decide) (hdb:(x == ("__debug__":Str))=false:=by decide)
  (h:(e::es).all nst=true:=by rfl):PE X (.Call (.Name x p) (e::es) [] pos) (tCB r t):=by
 simp only[uk,xM]at h
 exact zS7 hc hg hm hv ha hn hdb (zBw h.1) (zGi h.2)
theorem zY5 {x:Str}{T:String}{r:List V->Hp->VK->Prop}(hc:zBs X (.type T) r) (hg:Gl X x) (hm:X.mg x=none) (hv:bootBuiltins x=some (.type T)) (ha:PA X (e::es) t) (hn:x≠"__name__":=by decide) (hdb:(x == ("__debug__":Str))=false:=by decide)
  (h:(e::es).all nst=true:=by rfl):PE X (.Call (.Name x p) (e::es) [] pos) (tCB r t):=by
 simp only[uk,xM]at h
 exact zOz hc hg hm hv ha hn hdb (zBw h.1) (zGi h.2)
theorem qtruth (ha:PE X e te) (h:ntt e=true:=by rfl):PT X e (fun σ H Q=>te σ H fun x H1=>∃k,TruV X.K x H1 k/\Q k H1):=zRo ha (zUk h)
theorem qset {j:Nat}{x:Str}{pos':Pos}(hN:X.N.Nodup) (hi:X.N[j]?=some x) (hx:Loc X.env.scope x) (he:PE X e te) (hf:X.fn x=true\/X.env.scope.names.lookup x=some .local:=by first|exact .inl rfl|exact .inr rfl|assumption) (h:nco e=true:=by rfl):
  PS X (.Assign [.Name x pos'] e pos) (tAsg te (gName j)):=zYc hN hi hx he (zHo h) hf
theorem qasgt {ts:List Expr}{k:Nat}{tp:Pos}{g:TG}(he:PE X e te) (hg:PG X (.Tuple ts k tp) g) (h1:ntu e=true:=by rfl):PS X (.Assign [.Tuple ts k tp] e pos) (tAsg te g):=zOq he hg zHq (zO4 h1) rfl
theorem qgs {tg:Expr}{ts:List Expr}{g:TG}{gs:TGs}(h1:PG X tg g) (h2:PGs X ts gs) (h:nst tg=true:=by rfl):PGs X (tg::ts) (zWo g gs):=zS1 h1 h2 (zGn h)
theorem qtup {ts:List Expr}{k n:Nat}{gs:TGs}(hc:X.calm=true) (h:PGs X ts gs) (hn:ts.length=n:=by rfl) (h1:ts.all nst=true:=by rfl):PG X (.Tuple ts k pos) (gTup X.K n gs):=zYi hc h ((zBq h1).1.trans hn) (zBq h1).2
theorem qunl {ts:List Expr}{k n:Nat}{gs:TGs}(hc:X.calm=true) (h:PGs X ts gs) (hn:ts.length=n:=by rfl) (h1:ts.all nst=true:=by rfl):PG X (.Tuple ts k pos) (gLst X.K n gs):=zYh hc h ((zBq h1).1.trans hn) (zBq h1).2
theorem qfor {tg iter:Expr}{body:List Stmt}{wi:TI}{g:TG}{tb:TS}(hp:PassesOwn (model X.prog X.w) X.A X.env X.xe) (hc:X.calm=true) (hi:PI X tg iter wi) (hg:PG X tg g) (hb:PSs X body tb) (h:nse iter=true:=by rfl):
  PS X (.For tg iter body [] pos) (tFor wi g tb):=zYg hp hc hi hg hb (zHs h)
theorem qexpr (he:PE X e te) (h:nco e=true:=by rfl):PS X (.Expr e pos) (zUo te):=zVd he (zHo h)
theorem qlcomp {own fre:List Str}{ix:List Nat}{scope:Scope}{tg elt iter:Expr}{ifs:List Expr}{wi:TI}{g:TG}{tt:TT}(hc:X.calm=true) (S:CompScope X own fre ix scope) (hi:PI X tg iter wi)
  (hg:∀cl C s H fp,PG (zAy X (own++fre) scope cl C s H fp) tg g) (ht:∀cl C s H fp,PIfs (zAy X (own++fre) scope cl C s H fp) ifs tt) (he:∀cl C s H fp,PE (zAy X (own++fre) scope cl C s H fp) elt te)
  (h:nse iter=true:=by rfl):PE X (.ListComp elt [⟨tg,iter,ifs,0⟩] scope pos) (zK7 own ix wi g tt te):=zS4 hc S hi hg ht he (zHs h)
theorem qsetc {own fre:List Str}{ix:List Nat}{scope:Scope}{j:Nat}{x:Str}{pos':Pos}{tg elt iter:Expr}{ifs:List Expr}{wi:TI}{g:TG}{tt:TT}(hN:X.N.Nodup) (hix:X.N[j]?=some x) (hx:Loc X.env.scope x)
  (hc:X.calm=true) (S:CompScope X own fre ix scope) (hi:PI X tg iter wi)
  (hg:∀cl C s H fp,PG (zAy X (own++fre) scope cl C s H fp) tg g) (ht:∀cl C s H fp,PIfs (zAy X (own++fre) scope cl C s H fp) ifs tt) (he:∀cl C s H fp,PE (zAy X (own++fre) scope cl C s H fp) elt te)
  (hsw:swapsWith (.ListComp elt [⟨tg,iter,ifs,0⟩] scope cpos) (some (.Name x pos')) pos.line X.env=pure true:=by rfl) (h:nse iter=true:=by rfl) (hf:X.fn x=true\/X.env.scope.names.lookup x=some .local:=by first|exact .inl rfl|exact .inr rfl|assumption):
  PS X (.Assign [.Name x pos'] (.ListComp elt [⟨tg,iter,ifs,0⟩] scope cpos) pos) (tAsg (zK7 own ix wi g tt te) (gName j)):=zVb hN hix hx hc S hi hg ht he hsw (zHs h) hf
theorem qrange1 {tg:Expr}{ta:TA}(hg:Gl X "range") (hm:X.mg "range"=none) (ha:PA X [a] ta) (h:nst a=true:=by rfl):PI X tg (.Call (.Name "range" p) [a] [] pos) (zWk ta):=zOw hg hm ha (zBw h)
theorem qlistrev {p2 pos2:Pos}(hc:X.calm=true) (he:PE X e te) (hgl:Gl X "list") (hml:X.mg "list"=none) (hgr:Gl X "reversed") (hmr:X.mg "reversed"=none) (h:nst e=true:=by rfl):
  PE X (.Call (.Name "list" p) [.Call (.Name "reversed" p2) [e] [] pos2] [] pos) (zHn X.K te):=zMt hc he hgl hml hgr hmr (zBw h) rfl
theorem qbm0 {T name id:_}{r:V->List V->Hp->VK->Prop}(pa:PlainAttrs T) (slot:Slot T name id) (hty:typeOf (.builtin id)=pure (.type "method_descriptor")) (hm:MtR X id r) (ho:PE X o to) (h:nba o=true:=by rfl) (hline:(apos.endLine == cpos.line)=true:=by rfl):
  PE X (.Call (.Attribute o name apos) [] [] cpos) (tBM0 X.K T r to):=zYt pa slot hty hm ho (zGh h) hline
theorem qpar {x y:Str}{px py pt pt2:Pos}{kt k2 i j:Nat}{ta:TA}(hc:X.calm=true) (hN:X.N.Nodup) (hi:X.N[i]?=some x) (hj:X.N[j]?=some y) (hij:i≠j)
  (hx:X.env.scope.names.lookup x=some .local) (hy:X.env.scope.names.lookup y=some .local) (ha:PA X [a,b] ta)
  (hw:swappedStores [.Tuple [.Name x px,.Name y py] kt pt] (.Tuple [a,b] k2 pt2) X.env=pure (some [x,y])):
  PS X (.Assign [.Tuple [.Name x px,.Name y py] kt pt] (.Tuple [a,b] k2 pt2) pos) (tPar i j ta):=zYe hc hN hi hj hij hx hy ha hw zHq
end
end L2
namespace L2
open PySem PySem.Spec PyProof.Rows
structure SE (X:Cx) (e:Expr) (t:TE):Prop where h:PE X e t
structure ST (X:Cx) (e:Expr) (t:TT):Prop where h:PT X e t
structure SW (X:Cx) (e:Expr) (t:TT):Prop where h:PW X e t
structure SA (X:Cx) (es:List Expr) (t:TA):Prop where h:PA X es t
structure SS (X:Cx) (st:Stmt) (t:TS):Prop where h:PS X st t
structure SSs (X:Cx) (st:List Stmt) (t:TS):Prop where h:PSs X st t
structure SG (X:Cx) (e:Expr) (t:TG):Prop where h:PG X e t
structure SGs (X:Cx) (es:List Expr) (t:TGs):Prop where h:PGs X es t
structure SI (X:Cx) (tg e:Expr) (t:TI):Prop where h:PI X tg e t
structure SIfs (X:Cx) (es:List Expr) (t:TT):Prop where h:PIfs X es t
structure SO (X:Cx) (e:Option Expr) (t:TO):Prop where h:PO X e t
structure SPs (X:Cx) (pos:Pos) (ks:List (Option Expr)) (vs:List Expr) (t:List (TE × TE)):Prop where h:PPs X pos ks vs t
section
variable {X:Cx}{e o i a b c:Expr}{es:List Expr}{te ta tb tc to ti tv td ty:TE}{t:TA}{p pos cpos apos:Pos}{tA tB':TT}
theorem pv' (i:Nat) {x:Str}{pos:Pos}(hN:X.N[i]?=some x:=by rfl) (hv:Vis X.env.scope x:=by first|exact Or.inl rfl|exact Or.inr (Or.inl rfl)|exact Or.inr (Or.inr rfl)) (hd:(x == ("__debug__":Str))=false:=by decide)
  (hcd:(x == ("__classdict__":Str))=false:=by decide):SE X (.Name x pos) (tVar i):=⟨pv i hN hv hd hcd⟩
theorem zVn {i:Int}{j:Nat}:SE X (.Constant (.int i) j pos) (tC (.int i)):=⟨zYr⟩
theorem zYv {b:Bool}{j:Nat}:SE X (.Constant (.bool b) j pos) (tC (.bl b)):=⟨yAv⟩
theorem zOx {x:Str}{j:Nat}:SE X (.Constant (.str x) j pos) (tC (.str x)):=⟨zYn⟩
theorem zS8 {x:Str}{v:V}{u:Value}(hg:Gl X x) (hm:X.mg x=none) (hv:bootBuiltins x=some u) (r:RelV v u) (hn:x≠"__name__":=by decide) (hd:(x == ("__debug__":Str))=false:=by decide):SE X (.Name x pos) (tC v):=⟨zVs hg hm hv r hn hd⟩
theorem zYo {op:Operator}{r:R2}(ho:OpR X (binaryOp op) r) (ha:SE X a ta) (hb:SE X b tb):SE X (.BinOp a op b pos) (tOp r ta tb):=⟨yAs ho ha.h hb.h⟩
theorem zYl {op:UnaryOp}{r:V->Hp->VK->Prop}(ho:UnR X (unaryOp op) r) (ha:SE X a ta):SE X (.UnaryOp op a pos) (tUn r ta):=⟨yAr ho ha.h⟩
theorem zVt (ha:SE X a ta) (hb:SE X (.BoolOp .And (b::es) pos) tb):SE X (.BoolOp .And (a::b::es) pos) (zXv ta tb):=⟨zYw ha.h hb.h⟩
theorem zVl {op:BoolOp}(ha:SE X a ta):SE X (.BoolOp op [a] pos) ta:=⟨zYp ha.h⟩
theorem zVk {k:Nat}(h:SA X es t):SE X (.Tuple es k pos) (tTup t):=⟨zYm h.h⟩
theorem zVm (h:SA X es t):SE X (.List es pos) (tLst t):=⟨zYq h.h⟩
theorem zS5 {keys:List (Option Expr)}{values:List Expr}{trs:List (TE × TE)}(h:SPs X pos keys values trs) (hall:keys.all (·.isSome)=true) (hl:keys.length=values.length) (h0:keys≠[]) (h15:keys.length<=15):SE X (.Dict keys values pos) (zXu trs):=⟨zVp h.h hall hl h0 h15⟩
theorem zRu:SPs X pos [] [] []:=⟨zVe⟩
theorem zOr {k v:Expr}{ks:List (Option Expr)}{vs:List Expr}{tk:TE}{trs:List (TE × TE)}(hk:SE X k tk) (hv:SE X v tv) (hr:SPs X pos ks vs trs):SPs X pos (some k::ks) (v::vs) ((tk,tv)::trs):=⟨zRv hk.h hv.h hr.h⟩
theorem zOy {r:V->Option Int->Option Int->Hp->VK->Prop}{lo hi:Option Expr}{tl th:TO}{p2:Pos}(hr:SlR X r) (he:SE X e te) (hl:SO X lo tl) (hu:SO X hi th):SE X (.Subscript e (.Slice lo hi none p2) pos) (tSl r te tl th):=⟨zS3 hr he.h hl.h hu.h⟩
theorem po_none':SO X none zNy:=⟨zVg⟩
theorem zRw (h:SE X e te):SO X (some e) (zXs te):=⟨zVf h.h⟩
theorem pa_nil':SA X [] tNil:=⟨zYx⟩
theorem qa' (ha:SE X e te) (hr:SA X es t) (h:nst e=true:=by rfl):SA X (e::es) (zUp te t):=⟨qa ha.h hr.h h⟩
theorem qix' {r:R2}(hr:IxR X r) (ha:SE X a ta) (hb:SE X b tb) (h:nsl b=true:=by rfl):SE X (.Subscript a b pos) (tOp r ta tb):=⟨qix hr ha.h hb.h h⟩
theorem qcal' {x:Str}{k:Nat}{ps:List Str}{sp:Sp}(C:Cal X.prog X.w X.K X.mg X.base x k ps sp) (hr:Room k X.A) (hg:Gl X x) (ha:SA X (e::es) t) (hdb:(x == ("__debug__":Str))=false:=by decide)
  (h:(e::es).all nst=true:=by rfl):SE X (.Call (.Name x p) (e::es) [] pos) (zRc sp [] E0 t):=⟨qcal C hr hg ha.h hdb h⟩
theorem zOk {x:Str}{id:String}{r:List V->Hp->VK->Prop}(hc:zBs X (.builtin id) r) (hg:Gl X x) (hm:X.mg x=none) (hv:bootBuiltins x=some (.builtin id)) (ha:SA X (e::es) t) (hn:x≠"__name__":=by decide) (hdb:(x == ("__debug__":Str))=false:=by decide)
  (h:(e::es).all nst=true:=by rfl):SE X (.Call (.Name x p) (e::es) [] pos) (tCB r t):=⟨zY6 hc hg hm hv ha.h hn hdb h⟩
theorem zOj {x:Str}{T:String}{r:List V->Hp->VK->Prop}(hc:zBs X (.type T) r) (hg:Gl X x) (hm:X.mg x=none) (hv:bootBuiltins x=some (.type T)) (ha:SA X (e::es) t) (hn:x≠"__name__":=by decide) (hdb:(x == ("__debug__":Str))=false:=by decide)
  (h:(e::es).all nst=true:=by rfl):SE X (.Call (.Name x p) (e::es) [] pos) (tCB r t):=⟨zY5 hc hg hm hv ha.h hn hdb h⟩
theorem qlistrev' {p2 pos2:Pos}(hc:X.calm=true) (he:SE X e te) (hgl:Gl X "list") (hml:X.mg "list"=none) (hgr:Gl X "reversed") (hmr:X.mg "reversed"=none) (h:nst e=true:=by rfl):
  SE X (.Call (.Name "list" p) [.Call (.Name "reversed" p2) [e] [] pos2] [] pos) (zHn X.K te):=⟨qlistrev hc he.h hgl hml hgr hmr h⟩
theorem qbm0' {T name id:_}{r:V->List V->Hp->VK->Prop}(pa:PlainAttrs T) (slot:Slot T name id) (hty:typeOf (.builtin id)=pure (.type "method_descriptor")) (hm:MtR X id r) (ho:SE X o to) (h:nba o=true:=by rfl) (hline:(apos.endLine == cpos.line)=true:=by rfl):
  SE X (.Call (.Attribute o name apos) [] [] cpos) (tBM0 X.K T r to):=⟨qbm0 pa slot hty hm ho.h h hline⟩
theorem zMe {env:Env}{pos:Pos}:∀{es:List Expr},es.all nst=true->(backTo pos (starEach es env)).all (fun x=>!x.1)=true
 | [],_=>rfl
 | e::es,h=>by
  simp only[uk,xM]at h
  rw[zBw h.1]
  show(true && (backTo pos (starEach es env)).all (fun x=>!x.1))=true
  rw[zMe h.2];rfl
theorem zYu {T name id:_}{r:V->List V->Hp->VK->Prop}(pa:PlainAttrs T) (slot:Slot T name id) (hty:typeOf (.builtin id)=pure (.type "method_descriptor")) (hm:MtR X id r) (ho:SE X o to) (ha:SA X (e::es) t) (h:nba o=true:=by rfl) (hs:(e::es).all nst=true:=by rfl)
  (hlen:decide ((e::es).length+0+0<30)=true:=by rfl) (hline:(apos.endLine == cpos.line)=true:=by rfl):SE X (.Call (.Attribute o name apos) (e::es) [] cpos) (tBM X.K T r to t):=by
 have hs':=hs
 simp only[uk,xM]at hs'
 refine⟨yAu pa slot hty hm ho.h ha.h (zGh h) ?_ hline (zBw hs'.1) (zGi hs'.2)⟩
 rw[zMe hs]
 exact hlen
theorem zS6 {op:CmpOp}{r:R2}(ho:OpR X (compareOp op) r) (ha:SE X a ta) (hb:SE X b tb) (hm:behindInMarks op b=false):SE X (.Compare a [op] [b] pos) (tOp r ta tb):=⟨zVq ho ha.h hb.h hm⟩
theorem zRp {op:CmpOp}{r:R2}(ho:OpR X (compareOp op) r) (ha:SE X a ta) (hb:SE X b tb) (hm:behindInMarks op b=false):ST X (.Compare a [op] [b] pos) (zRb (tOp r ta tb)):=⟨zV8 ho ha.h hb.h hm⟩
theorem zOn {op op':CmpOp}{r r':R2}(ho:OpR X (compareOp op) r) (ho':OpR X (compareOp op') r') (ha:SE X a ta) (hb:SE X b tb) (hc:SE X c tc) (hm:lastMarks [op,op'] [b,c]=false:=by with_unfolding_all rfl):ST X (.Compare a [op,op'] [b,c] pos) (zRb (zNz r r' ta tb tc)):=⟨zRq ho ho' ha.h hb.h hc.h hm⟩
theorem zV7 (ha:ST X a tA):ST X (.UnaryOp .Not a pos) (tNot tA):=⟨zYb ha.h⟩
theorem zRm (ha:ST X a tA):SW X (.BoolOp .And [a] pos) tA:=⟨zV4 ha.h⟩
theorem zV3 (ha:ST X a tA):SW X (.BoolOp .Or [a] pos) tA:=⟨zY8 ha.h⟩
theorem zV5 (ha:ST X a tA) (hb:SW X (.BoolOp .And (b::es) pos) tB'):SW X (.BoolOp .And (a::b::es) pos) (tAnd tA tB'):=⟨zYa ha.h hb.h⟩
theorem zY9 (ha:ST X a tA) (hb:SW X (.BoolOp .Or (b::es) pos) tB'):SW X (.BoolOp .Or (a::b::es) pos) (tOr tA tB'):=⟨yAn ha.h hb.h⟩
theorem zY7 (h:SW X e tA):ST X e tA:=⟨h.h.pt⟩
noncomputable def tTru (K:PySem.W.Frag) (te:TE):TT:=fun σ H Q=>te σ H fun x H1=>∃k,TruV K x H1 k/\Q k H1
theorem qtruth' (ha:SE X e te) (h:ntt e=true:=by rfl):ST X e (tTru X.K te):=⟨qtruth ha.h h⟩
theorem qrange1' {tg:Expr}{ta:TA}(hg:Gl X "range") (hm:X.mg "range"=none) (ha:SA X [a] ta) (h:nst a=true:=by rfl):SI X tg (.Call (.Name "range" p) [a] [] pos) (zWk ta):=⟨qrange1 hg hm ha.h h⟩
theorem zS2 {j:Nat}{x:Str}(hN:X.N.Nodup) (hi:X.N[j]?=some x) (hx:Loc X.env.scope x) (hf:X.fn x=true\/X.env.scope.names.lookup x=some .local:=by first|exact .inl rfl|exact .inr rfl|assumption):SG X (.Name x pos) (gName j):=⟨zVj hN hi hx hf⟩
theorem pgs_nil':SGs X [] gNil:=⟨zVh⟩
theorem qgs' {tg:Expr}{ts:List Expr}{g:TG}{gs:TGs}(h1:SG X tg g) (h2:SGs X ts gs) (h:nst tg=true:=by rfl):SGs X (tg::ts) (zWo g gs):=⟨qgs h1.h h2.h h⟩
theorem qtup' {ts:List Expr}{k n:Nat}{gs:TGs}(hc:X.calm=true) (h:SGs X ts gs) (hn:ts.length=n:=by rfl) (h1:ts.all nst=true:=by rfl):SG X (.Tuple ts k pos) (gTup X.K n gs):=⟨qtup hc h.h hn h1⟩
theorem qunl' {ts:List Expr}{k n:Nat}{gs:TGs}(hc:X.calm=true) (h:SGs X ts gs) (hn:ts.length=n:=by rfl) (h1:ts.all nst=true:=by rfl):SG X (.Tuple ts k pos) (gLst X.K n gs):=⟨qunl hc h.h hn h1⟩
theorem zVi {ts:TSet}(ho:SE X o to) (hi:SE X i ti) (hs:PSet X ts) (h:nsl i=true:=by rfl):SG X (.Subscript o i pos) (gSub to ti ts):=by
 refine⟨zYj ho.h hi.h hs fun v=>?_⟩
 cases i <;> first|rfl|cases h
theorem pifs_nil':SIfs X [] tYes:=⟨zRz⟩
theorem zOt (hc:ST X c tA):SIfs X [c] tA:=⟨zRy hc.h⟩
theorem qlcomp' {own fre:List Str}{ix:List Nat}{scope:Scope}{tg elt iter:Expr}{ifs:List Expr}{wi:TI}{g:TG}{tt:TT}(hc:X.calm=true) (S:CompScope X own fre ix scope) (hi:SI X tg iter wi)
  (hg:∀cl C s H fp,SG (zAy X (own++fre) scope cl C s H fp) tg g) (ht:∀cl C s H fp,SIfs (zAy X (own++fre) scope cl C s H fp) ifs tt) (he:∀cl C s H fp,SE (zAy X (own++fre) scope cl C s H fp) elt te)
  (h:nse iter=true:=by rfl):SE X (.ListComp elt [⟨tg,iter,ifs,0⟩] scope pos) (zK7 own ix wi g tt te):=⟨qlcomp hc S hi.h (fun _ _ _ _ _=>(hg _ _ _ _ _).h) (fun _ _ _ _ _=>(ht _ _ _ _ _).h) (fun _ _ _ _ _=>(he _ _ _ _ _).h) h⟩
theorem qsetc' {own fre:List Str}{ix:List Nat}{scope:Scope}{j:Nat}{x:Str}{pos':Pos}{tg elt iter:Expr}{ifs:List Expr}{wi:TI}{g:TG}{tt:TT}(hN:X.N.Nodup) (hix:X.N[j]?=some x) (hx:Loc X.env.scope x)
  (hc:X.calm=true) (S:CompScope X own fre ix scope) (hi:SI X tg iter wi)
  (hg:∀cl C s H fp,SG (zAy X (own++fre) scope cl C s H fp) tg g) (ht:∀cl C s H fp,SIfs (zAy X (own++fre) scope cl C s H fp) ifs tt) (he:∀cl C s H fp,SE (zAy X (own++fre) scope cl C s H fp) elt te)
  (hsw:swapsWith (.ListComp elt [⟨tg,iter,ifs,0⟩] scope cpos) (some (.Name x pos')) pos.line X.env=pure true:=by rfl) (h:nse iter=true:=by rfl) (hf:X.fn x=true\/X.env.scope.names.lookup x=some .local:=by first|exact .inl rfl|exact .inr rfl|assumption):
  SS X (.Assign [.Name x pos'] (.ListComp elt [⟨tg,iter,ifs,0⟩] scope cpos) pos) (tAsg (zK7 own ix wi g tt te) (gName j)):=⟨qsetc hN hix hx hc S hi.h (fun _ _ _ _ _=>(hg _ _ _ _ _).h) (fun _ _ _ _ _=>(ht _ _ _ _ _).h) (fun _ _ _ _ _=>(he _ _ _ _ _).h) hsw h hf⟩
theorem qset' {j:Nat}{x:Str}{pos':Pos}(hN:X.N.Nodup) (hi:X.N[j]?=some x) (hx:Loc X.env.scope x) (he:SE X e te) (hf:X.fn x=true\/X.env.scope.names.lookup x=some .local:=by first|exact .inl rfl|exact .inr rfl|assumption) (h:nco e=true:=by rfl):
  SS X (.Assign [.Name x pos'] e pos) (tAsg te (gName j)):=⟨qset hN hi hx he.h hf h⟩
theorem qasgt' {ts:List Expr}{k:Nat}{tp:Pos}{g:TG}(he:SE X e te) (hg:SG X (.Tuple ts k tp) g) (h1:ntu e=true:=by rfl):SS X (.Assign [.Tuple ts k tp] e pos) (tAsg te g):=⟨qasgt he.h hg.h h1⟩
theorem qasgn' {ts:List Expr}{k:Nat}{tp:Pos}{g:TG}(he:SE X e te) (hg:SG X (.Tuple ts k tp) g) (hw:swappedStores [.Tuple ts k tp] e X.env=pure none:=by rfl):SS X (.Assign [.Tuple ts k tp] e pos) (tAsg te g):=⟨zOq he.h hg.h zHq hw rfl⟩
theorem qasgs' {g:TG}{sp2:Pos}(he:SE X e te) (hg:SG X (.Subscript o i sp2) g) (h2:nco e=true:=by rfl):SS X (.Assign [.Subscript o i sp2] e pos) (tAsg te g):=⟨zOq he.h hg.h (zUr h2) (by cases e <;> rfl) rfl⟩
theorem qpar' {x y:Str}{px py pt pt2:Pos}{kt k2 i j:Nat}{ta:TA}(hc:X.calm=true) (hN:X.N.Nodup) (hi:X.N[i]?=some x) (hj:X.N[j]?=some y) (hij:i≠j)
  (hx:X.env.scope.names.lookup x=some .local) (hy:X.env.scope.names.lookup y=some .local) (ha:SA X [a,b] ta)
  (hw:swappedStores [.Tuple [.Name x px,.Name y py] kt pt] (.Tuple [a,b] k2 pt2) X.env=pure (some [x,y])):
  SS X (.Assign [.Tuple [.Name x px,.Name y py] kt pt] (.Tuple [a,b] k2 pt2) pos) (tPar i j ta):=⟨qpar hc hN hi hj hij hx hy ha.h hw⟩
theorem zVc (he:SE X e te):SS X (.Return (some e) pos) (tRet te):=⟨zYd he.h⟩
theorem zYf {ba bb:List Stmt}{t u:TS}(hc:ST X c tA) (ha:SSs X ba t) (hb:SSs X bb u):SS X (.If c ba bb pos) (tIfS tA t u):=⟨yAo hc.h ha.h hb.h⟩
theorem zOp {body:List Stmt}{t:TS}(hp:PassesOwn (model X.prog X.w) X.A X.env X.xe) (hc:ST X c tA) (hb:SSs X body t):SS X (.While c body [] pos) (zTm tA t):=⟨zRt hp hc.h hb.h⟩
theorem qfor' {tg iter:Expr}{body:List Stmt}{wi:TI}{g:TG}{t:TS}(hp:PassesOwn (model X.prog X.w) X.A X.env X.xe) (hc:X.calm=true) (hi:SI X tg iter wi) (hg:SG X tg g) (hb:SSs X body t) (h:nse iter=true:=by rfl):
  SS X (.For tg iter body [] pos) (tFor wi g t):=⟨qfor hp hc hi.h hg.h hb.h h⟩
theorem qexpr' (he:SE X e te) (h:nco e=true:=by rfl):SS X (.Expr e pos) (zUo te):=⟨qexpr he.h h⟩
theorem pss_nil':SSs X [] zXt:=⟨zVa⟩
theorem zRr {st:Stmt}{t:TS}(h:SS X st t):SSs X [st] t:=⟨zV9 h.h⟩
theorem zOo {st:Stmt}{r:List Stmt}{t u:TS}(h1:SS X st t) (h2:SSs X r u):SSs X (st::r) (tSeq t u):=⟨zRs h1.h h2.h⟩
end
end L2
namespace L2
open PySem PySem.Spec PyProof.Rows
noncomputable def BN (n:Nat) (x:Int):Prop:=x.natAbs<2 ^ n
theorem BN.bits {x:Int}(h:BN 5000 x):Builtin.Int.intBits x<=2 ^ 20:=by
 unfold Builtin.Int.intBits
 split
 ·exact xR _
 ·rename_i hx
  have h0:x.natAbs≠0:=by
   intro z
   apply hx
   have:x=0:=by nofun
   rw[this];rfl
  have:=(Nat.log2_lt h0).mpr h
  lia
theorem BN.log {x:Int}(h:BN 5000 x):x.natAbs.log2<9000:=by
 by_cases h0:x.natAbs=0
 ·rw[h0];decide +kernel
 ·have:=(Nat.log2_lt h0).mpr h
  lia
section
variable {X:Cx}
theorem zVy:OpR X (binaryOp .Mult) (rI (fun i j=>BN 5000 i/\BN 5000 j) fun i j=>.int (i*j)):=opI fun _ _ _ _ _ _ _ hc q=>mul_int q (IntMulOk.of_bits hc.1.bits hc.2.bits)
theorem zS9:OpR X (binaryOp .FloorDiv) (rI (fun _ j=>j≠0/\BN 5000 j) fun i j=>.int (i.fdiv j)):=opI fun _ _ _ _ _ _ _ hc q=>floordiv_int hc.1 q (.inl (PyProof.noPylong_of_log2 hc.2.log))
end
noncomputable def dv (u l:Int):Int:=if l<0 then -(Int.gcd u l:Int)else(Int.gcd u l:Int)
end L2
namespace L2
open PySem PySem.Spec PyProof.Rows
section
variable {X:Cx}{pins:List (Addr × Obj)}{σ:St}{H:Hp}{s:Shared}{h':Heap}
theorem Inv.turnedT {t':Nat}{fp:List Addr}{T:Addr}{o:HO}(I:Inv X pins σ H s) (hf:∀b∈fp,FpOk X pins H b) (k:∀b o,b ∉ fp->s.heap.get? b=some o->h'.get? b=some o) (hT:s.heap.objs.size<=T)
  (new:ObjOk X.prog X.w (upd H T o) h' T o):Inv X pins σ (upd H T o) { s with heap:=h',toks:=t' }:=by
 have hn:H T=none:=I.hok.fresh hT
 have nit:∀b u,H b=some u->b ∉ fp:=fun b u e z=>by rw[(hf b z).1]at e;cases e
 refine I.step (g':=s.gens) (d':=s.drawn) (ch:=fp) (fun b hb=>⟨(hf b hb).2.2.2.1,(hf b hb).2.1,(hf b hb).2.2.2.2.1,(hf b hb).2.2.2.2.2⟩) (fun b o _ _ hc e _=>k b o hc e) (fun b o _ _ hc e _=>⟨o.slots,k b o hc e⟩)
  (fun b u _ q n=>by rw[zAq (xr (xC (xo q) hT))];exact n)
  (fun b o hc e=>⟨o,k b o hc e⟩) (fun b xs q=>by rw[zAq (zAm q hn)];exact q) (fun b u xs q=>by rw[zAq (zAm q hn)];exact q) (fun b ps q=>⟨#[],by rw[zAq (zAm q hn),q];simp⟩) (fun m hm=>?_) (fun b u e=>?_) I.bare
 ·obtain⟨o,es,ep,ho,r⟩:=hm
  exact⟨o,es,ep,k _ o (fun z=>(hf _ z).2.1 rfl) ho,r⟩
 ·by_cases hb:b=T
  ·subst hb;rw[zB1]at e;cases e;exact new
  ·rw[zAq hb]at e
   refine(I.hok b u e).stay (fun c v hc q=>k c v ?_ q) (fun c q=>by rw[zAq (zAm q hn)];exact q) fun c xs q=>by rw[zAq (zAm q hn)];exact q
   rcases hc with z|z
   ·rw[z];exact nit b u e
   ·exact nit c _ z
theorem Inv.turnedL {t':Nat}{fp:List Addr}(I:Inv X pins σ H s) (hf:∀b∈fp,FpOk X pins H b) (k:∀b o,b ∉ fp->s.heap.get? b=some o->h'.get? b=some o):Inv X pins σ H { s with heap:=h',toks:=t' }:=by
 have nit:∀b u,H b=some u->b ∉ fp:=fun b u e z=>by rw[(hf b z).1]at e;cases e
 refine I.step (g':=s.gens) (d':=s.drawn) (ch:=fp) (fun b hb=>⟨(hf b hb).2.2.2.1,(hf b hb).2.1,(hf b hb).2.2.2.2.1,(hf b hb).2.2.2.2.2⟩) (fun b o _ _ hc e _=>k b o hc e) (fun b o _ _ hc e _=>⟨o.slots,k b o hc e⟩)
  (fun _ _ _ _ n=>n) (fun b o hc e=>⟨o,k b o hc e⟩) (fun _ _ e=>e) (fun _ _ _ e=>e) (fun b ps e=>⟨#[],by rw[e];simp⟩) (fun m hm=>?_) (fun b u e=>?_) I.bare
 ·obtain⟨o,es,ep,ho,r⟩:=hm
  exact⟨o,es,ep,k _ o (fun z=>(hf _ z).2.1 rfl) ho,r⟩
 ·refine(I.hok b u e).stay (fun c v hc q=>k c v ?_ q) (fun _ q=>q) fun _ _ q=>q
  rcases hc with z|z
  ·rw[z];exact nit b u e
  ·exact nit c _ z
end
structure ZipOwn (z TI TO i1 i2:Addr):Prop where
 TIz:TI≠z
 TOz:TO≠z
 i1z:i1≠z
 i2z:i2≠z
 TITO:TI≠TO
 TIi1:TI≠i1
 TIi2:TI≠i2
 TOi1:TO≠i1
 TOi2:TO≠i2
 i12:i1≠i2
theorem ZipOwn.apart {z TI TO i1 i2 a b:Addr}(D:ZipOwn z TI TO i1 i2) (ha:a ∉ [z,TI,TO,i1,i2]) (hb:b ∉ [z,TI,TO,i1,i2]):ZipApart z TI TO i1 i2 a b:=by
 simp only[xm,vd,ve,not_or]at ha hb
 obtain⟨a1,a2,a3,a4,a5⟩:=ha
 obtain⟨b1,b2,b3,b4,b5⟩:=hb
 exact⟨D.TIz,D.TOz,D.i1z,D.i2z,D.TITO,D.TIi1,D.TIi2,D.TOi1,D.TOi2,D.i12,a1,a3,a4,a5,b1,b3,b4,b5⟩
end L2
namespace TB
open PySem
noncomputable abbrev Up (l:List Nat):Prop:=l.Pairwise (·<·)
theorem zGw {l:List Nat}(h:Up l) {i j:Nat}(hij:i<j) (hj:j<l.length):l[i]'(vH hij hj)<l[j]:=List.pairwise_iff_getElem.mp h i j _ hj hij
theorem zK6:∀(l:List Nat) (a b:Nat),Up l->(∀e,a<=e->e<b->e∈l)->b-a<=l.length
 | [],a,b,_,h=>by
  by_cases c:a<b
  ·exact absurd (h a (xi _) c) (by simp)
  ·simp;lia
 | x::xs,a,b,u,h=>by
  have ux:=ua.mp u
  by_cases c:a<b
  ·have ha:=h a (xi _) c
   rcases Nat.lt_trichotomy a x with q|q|q
   ·rcases xm.mp ha with z|z
    ·lia
    ·exact absurd (ux.1 a z) (by nofun)
   ·subst q
    have r:=zK6 xs (a+1) b ux.2 fun e h1 h2=>by
     rcases xm.mp (h e (by nofun) h2)with z|z
     ·lia
     ·exact z
    simp only[xE];lia
   ·have r:=zK6 xs a b ux.2 fun e h1 h2=>by
     rcases xm.mp (h e h1 h2)with z|z
     ·lia
     ·exact z
    simp only[xE];lia
  ·lia
theorem zXm {l:List Nat}{m:Nat}(u:Up l) (h:l.length<=m):∃e,e<=m/\e ∉ l:=by
 refine xW fun n=>?_
 have r:=zK6 l 0 (m+1) u fun e _ h2=>xW fun q=>n ⟨e,by nofun,q⟩
 lia
theorem zIn {xs:Array Nat}{j:Nat}(u:Up xs.toList):∀(f lo hi:Nat),hi-lo<=f->lo<=hi->hi<=xs.size->(∀i (q:i<xs.size),i<lo->xs[i]<j)->(∀i (q:i<xs.size),hi<=i->j<=xs[i])->
  (SetTable.below.go xs j f lo hi<=xs.size/\(∀i (q:i<xs.size),i<SetTable.below.go xs j f lo hi->xs[i]<j)/\(∀i (q:i<xs.size),SetTable.below.go xs j f lo hi<=i->j<=xs[i]))
 | 0,lo,hi,h1,h2,h3,h4,h5=>by
  have e:lo=hi:=by nofun
  subst e
  exact⟨h3,h4,h5⟩
 | f+1,lo,hi,h1,h2,h3,h4,h5=>by
  unfold SetTable.below.go
  by_cases c:lo<hi
  ·rw[xf c]
   have hm:(lo+hi) / 2<hi:=by nofun
   have hl:lo<=(lo+hi) / 2:=by nofun
   have hz:(lo+hi) / 2<xs.size:=by nofun
   have eg:xs.getD ((lo+hi) / 2) j=xs[(lo+hi) / 2]:=by simp[Array.getD,hz]
   dsimp only
   rw[eg]
   have rise:∀i k (q:i<xs.size) (r:k<xs.size),i<k->xs[i]<xs[k]:=fun i k q r hik=>by
    have:=zGw u hik (by simpa using r)
    simpa using this
   by_cases d:xs[(lo+hi) / 2]<j
   ·rw[xf d]
    refine zIn u f _ hi (by nofun) (by nofun) h3 (fun i q hi'=>?_) h5
    rcases vC i ((lo+hi) / 2)with z|z
    ·exact vH (rise _ _ q hz z) d
    ·have:i=(lo+hi) / 2:=by nofun
     subst this;exact d
   ·rw[xg d]
    refine zIn u f lo _ (by nofun) hl (by nofun) h4 (fun i q hi'=>?_)
    rcases vC ((lo+hi) / 2) i with z|z
    ·have:=rise _ _ hz q z;lia
    ·have:i=(lo+hi) / 2:=by nofun
     subst this;lia
  ·rw[xg c]
   have e:lo=hi:=by nofun
   subst e
   exact⟨h3,h4,h5⟩
theorem zIm {xs:Array Nat}(j:Nat) (u:Up xs.toList):SetTable.below xs j<=xs.size/\(∀i (q:i<xs.size),i<SetTable.below xs j->xs[i]<j)/\(∀i (q:i<xs.size),SetTable.below xs j<=i->j<=xs[i]):=
 zIn u xs.size 0 xs.size (by nofun) (by nofun) (xi _) (fun i q h=>by nofun) (fun i q h=>by nofun)
theorem zTe {xs:Array Nat}{j k:Nat}(u:Up xs.toList) (hk:k<=xs.size) (h1:∀i (q:i<xs.size),i<k->xs[i]<j) (h2:∀i (q:i<xs.size),k<=i->j<=xs[i]):SetTable.below xs j=k:=by
 obtain⟨a,b,c⟩:=zIm j u
 rcases Nat.lt_trichotomy (SetTable.below xs j) k with z|z|z
 ·have p:=h1 _ (by nofun) z;have q:=c _ (by nofun) (xi _);lia
 ·exact z
 ·have p:=h2 k (by nofun) (xi _);have q:=b k (by nofun) z;lia
noncomputable def slotAt (xs:Array Nat) (k:Nat):Nat:=if k=0 then 0 else xs.getD (k-1) 0+1
theorem zJy {xs:Array Nat}{k:Nat}(u:Up xs.toList) (hk:k<=xs.size):SetTable.below xs (slotAt xs k)=k:=by
 have rise:∀i k (q:i<xs.size) (r:k<xs.size),i<k->xs[i]<xs[k]:=fun i k q r hik=>by
  have:=zGw u hik (by simpa using r)
  simpa using this
 refine zTe u hk (fun i q h=>?_) (fun i q h=>?_)
 ·unfold slotAt
  rw[xg (by nofun)]
  have hz:k-1<xs.size:=by nofun
  have:xs.getD (k-1) 0=xs[k-1]:=by simp[Array.getD,hz]
  rw[this]
  rcases vC i (k-1)with z|z
  ·have:=rise _ _ q hz z;lia
  ·have:i=k-1:=by nofun
   subst this;lia
 ·unfold slotAt
  by_cases c:k=0
  ·rw[xf c];lia
  ·rw[xg c]
   have hz:k-1<xs.size:=by nofun
   have:xs.getD (k-1) 0=xs[k-1]:=by simp[Array.getD,hz]
   rw[this]
   have:=rise _ _ hz q (by nofun);lia
theorem zFg {α:Type}(xs:Array α) (p:Nat) (x:α):(SetTable.insertAt xs p x).toList=xs.toList.take p++x::xs.toList.drop p:=by
 unfold SetTable.insertAt
 simp[Array.toList_extract]
 exact yH (by simp)
theorem ins_perm {α:Type}(xs:Array α) (p:Nat) (x:α):(SetTable.insertAt xs p x).toList.Perm (x::xs.toList):=by
 rw[zFg]
 exact yo.trans (by rw[List.take_append_drop])
theorem zLy {α:Type}(xs:Array α) (p:Nat) (x:α):(SetTable.insertAt xs p x).size=xs.size+1:=by
 have:=(ins_perm xs p x).length_eq
 simpa using this
theorem ins_up {xs:Array Nat}{j:Nat}(u:Up xs.toList) (h:xs[SetTable.below xs j]?≠some j):Up (SetTable.insertAt xs (SetTable.below xs j) j).toList:=by
 obtain⟨a,b,c⟩:=zIm j u
 rw[zFg]
 have h1:∀v∈xs.toList.take (SetTable.below xs j),v<j:=fun v hv=>by
  obtain⟨i,hi,rfl⟩:=v8.mp hv
  rw[xU]at hi
  rw[List.getElem_take]
  have:=b i (by simp at hi;lia) (by nofun)
  simpa using this
 have h2:∀v∈xs.toList.drop (SetTable.below xs j),j<v:=fun v hv=>by
  obtain⟨i,hi,rfl⟩:=v8.mp hv
  rw[vg]at hi
  rw[List.getElem_drop]
  have hz:SetTable.below xs j+i<xs.size:=by simp at hi;lia
  have h3:=c _ hz (by nofun)
  have h4:xs[SetTable.below xs j]'(by nofun)≠j:=fun e=>h (by rw[vx (by nofun),e])
  have h5:=c (SetTable.below xs j) (by nofun) (xi _)
  have h6:xs[SetTable.below xs j]'(by nofun)<=xs[SetTable.below xs j+i]:=by
   rcases Nat.eq_zero_or_pos i with z|z
   ·subst z;exact xi _
   ·have:=zGw u (i:=SetTable.below xs j) (j:=SetTable.below xs j+i) (by nofun) (by simpa using hz)
    exact vM (by simpa using this)
  simp only[Array.getElem_toList]
  lia
 refine List.pairwise_append.mpr ⟨u.sublist (List.take_sublist _ _),ua.mpr ⟨fun v hv=>h2 v hv,u.sublist (List.drop_sublist _ _)⟩,fun p hp q hq=>?_⟩
 rcases xm.mp hq with rfl|hq
 ·exact h1 p hp
 ·exact vH (h1 p hp) (h2 q hq)
noncomputable def orb (m:Nat):Nat->Nat × Nat->Nat × Nat
 | 0,x=>x
 | L+1,x=>orb m L (SetTable.leap m x.1 x.2)
noncomputable def gs (m:Nat):Nat->Nat->Nat
 | 0,i=>i
 | k+1,i=>gs m k ((i*5+1) % (m+1))
theorem zLz (m:Nat):∀(a b i:Nat),gs m (a+b) i=gs m b (gs m a i)
 | 0,b,i=>by rw[vK];rfl
 | a+1,b,i=>by rw[show a+1+b=(a+b)+1 by nofun];exact zLz m a b _
noncomputable def Msk (m:Nat):Prop:=m=7\/m=31\/m=127\/m=511
theorem zZp {m:Nat}(h:Msk m):gs m (m+1) 0=0/\∀e,e<m+1->∃k,k<m+1/\gs m k 0=e:=by
 have t:∀(M:Nat) (f:Nat->Nat),(gs M (M+1) 0 == 0 && (List.range (M+1)).all fun e=>decide (f e<M+1) && gs M (f e) 0 == e)=true->gs M (M+1) 0=0/\∀e,e<M+1->∃k,k<M+1/\gs M k 0=e:=fun M f hh=>by
  rw[xM,vS]at hh
  refine⟨by simpa using hh.1,fun e he=>⟨f e,?_⟩⟩
  have:=hh.2 e (vq.mpr he)
  simpa using this
 rcases h with rfl|rfl|rfl|rfl
 ·exact t 7 (fun e=>((List.range 8).find? fun k=>gs 7 k 0 == e).getD 0) (by decide +kernel)
 ·exact t 31 (fun e=>((List.range 32).find? fun k=>gs 31 k 0 == e).getD 0) (by decide +kernel)
 ·exact t 127 (fun e=>((List.range 128).find? fun k=>gs 127 k 0 == e).getD 0) (by decide +kernel)
 ·exact t 511 (fun e=>((List.range 512).find? fun k=>gs 511 k 0 == e).getD 0) (by decide +kernel)
theorem zZo {m i e:Nat}(h:Msk m) (hi:i<m+1) (he:e<m+1):∃k,k<=m/\gs m k i=e:=by
 obtain⟨z,al⟩:=zZp h
 obtain⟨a,ha,rfl⟩:=al i hi
 obtain⟨b,hb,rfl⟩:=al e he
 rcases vC b a with c|c
 ·refine⟨m+1-a+b,by nofun,?_⟩
  rw[<- zLz,show a+(m+1-a+b)=(m+1)+b by nofun,zLz,z]
 ·exact⟨b-a,by nofun,by rw[<- zLz,show a+(b-a)=b by nofun]⟩
theorem zP2 (m:Nat):∀(a b:Nat) (x:Nat × Nat),orb m (a+b) x=orb m b (orb m a x)
 | 0,b,x=>by rw[vK];rfl
 | a+1,b,x=>by rw[show a+1+b=(a+b)+1 by nofun];exact zP2 m a b _
theorem zP1 (m:Nat):∀(L:Nat) (x:Nat × Nat),(orb m L x).2=x.2 / 32 ^ L
 | 0,x=>by simp[orb]
 | L+1,x=>by
  show(orb m L _).2=_
  rw[zP1 m L]
  show x.2 / 32 / 32 ^ L=_
  rw[Nat.div_div_eq_div_mul,Nat.pow_succ,Nat.mul_comm]
theorem zTv {m:Nat}:∀(L:Nat) (x:Nat × Nat),x.1<m+1->(orb m L x).1<m+1
 | 0,x,h=>h
 | L+1,x,h=>zTv L _ (Nat.mod_lt _ (by nofun))
theorem zTw (m:Nat):∀(k:Nat) (x:Nat × Nat),x.2=0->(orb m k x).1=gs m k x.1
 | 0,x,h=>rfl
 | k+1,x,h=>by
  show(orb m k (SetTable.leap m x.1 x.2)).1=gs m k _
  rw[zTw m k _ (by show x.2 / 32=0;rw[h])]
  show gs m k ((x.1*5+1+x.2 / 32) % (m+1))=_
  rw[h]
theorem zKd {m i p e:Nat}(h:Msk m) (hi:i<m+1) (hp:p<2 ^ 64) (he:e<m+1):∃L,L<=13+m/\(orb m L (i,p)).1=e:=by
 obtain⟨k,hk,ek⟩:=zZo h (zTv 13 (i,p) hi) he
 have h0:(orb m 13 (i,p)).2=0:=by rw[zP1];exact Nat.div_eq_of_lt (vH hp (by decide))
 exact⟨13+k,by nofun,by rw[zP2,zTw m k _ h0,ek]⟩
end TB
namespace TB
open PySem
noncomputable def adv (t:SetTable):Nat->SetTable.Probe->SetTable.Probe
 | 0,p=>p
 | m+1,p=>adv t m (t.advance p)
theorem zDc (t:SetTable):∀(a b:Nat) (p:SetTable.Probe),adv t (a+b) p=adv t b (adv t a p)
 | 0,b,p=>by rw[vK];rfl
 | a+1,b,p=>by rw[show a+1+b=(a+b)+1 by nofun];exact zDc t a b _
theorem zK1 (t:SetTable):∀(m:Nat) (p:SetTable.Probe),(adv t m p).dummy=p.dummy
 | 0,p=>rfl
 | m+1,p=>by
  show(adv t m (t.advance p)).dummy=_
  rw[zK1 t m]
  unfold SetTable.advance
  split <;> rfl
noncomputable def beg (t:SetTable) (x:Nat × Nat) (d:Option Nat):SetTable.Probe:={ j:=x.1,more:=SetTable.runEnd t.mask x.1-x.1,i:=x.1,perturb:=x.2,dummy:=d }
theorem zIo (t:SetTable):∀(c:Nat) (p:SetTable.Probe),p.more=c->adv t (c+1) p=beg t (SetTable.leap t.mask p.i p.perturb) p.dummy
 | 0,p,h=>by
  show t.advance p=_
  unfold SetTable.advance
  rw[xg (by nofun)]
  rfl
 | c+1,p,h=>by
  show adv t (c+1) (t.advance p)=_
  have e:t.advance p={ p with j:=p.j+1,more:=p.more-1 }:=by
   unfold SetTable.advance
   rw[xf (by nofun)]
  rw[e]
  exact zIo t c _ (by show p.more-1=c;lia)
theorem zXc (t:SetTable) (x:Nat × Nat) (d:Option Nat):∃c,1<=c/\c<=10/\adv t c (beg t x d)=beg t (SetTable.leap t.mask x.1 x.2) d:=by
 refine⟨SetTable.runEnd t.mask x.1-x.1+1,by nofun,?_,zIo t _ (beg t x d) rfl⟩
 unfold SetTable.runEnd
 split <;> lia
theorem zR4 (t:SetTable) (d:Option Nat):∀(L:Nat) (x:Nat × Nat),∃c,c<=10*L/\adv t c (beg t x d)=beg t (orb t.mask L x) d
 | 0,x=>⟨0,by nofun,rfl⟩
 | L+1,x=>by
  obtain⟨c,_,h1,e1⟩:=zXc t x d
  obtain⟨c',h2,e2⟩:=zR4 t d L (SetTable.leap t.mask x.1 x.2)
  refine⟨c+c',by nofun,?_⟩
  rw[zDc,e1,e2]
  rfl
theorem zL1 (h:Int):SetTable.bits h<2 ^ 64:=by
 unfold SetTable.bits
 have:=uo h (show(0:Int)<2 ^ 64 by decide)
 have:=uq h (show(2 ^ 64:Int)≠0 by decide)
 lia
theorem zO5 {t:SetTable}{h:Int}{e:Nat}(hm:Msk t.mask) (he:e<=t.mask):∃c,c<10*SetTable.turns t.mask/\(adv t c (t.probeStart h)).j=e:=by
 obtain⟨L,hL,eL⟩:=zKd (p:=SetTable.bits h) (i:=SetTable.bits h % (t.mask+1)) hm (Nat.mod_lt _ (by nofun)) (zL1 h) (show e<t.mask+1 by nofun)
 obtain⟨c,hc,ec⟩:=zR4 t none L (SetTable.bits h % (t.mask+1),SetTable.bits h)
 refine⟨c,by unfold SetTable.turns;lia,?_⟩
 have e0:t.probeStart h=beg t (SetTable.bits h % (t.mask+1),SetTable.bits h) none:=rfl
 rw[e0,ec]
 exact eL
noncomputable def Far (t:SetTable) (p:SetTable.Probe) (m:Nat):Prop:=t.slot (adv t m p).j=.empty/\p.dummy=none
theorem zDh {t:SetTable}(hd:t.dummies=#[]) (j:Nat):t.slot j=(if t.place[SetTable.below t.place j]? == some j then .live (SetTable.below t.place j)else .empty):=by
 have e:SetTable.has t.dummies j=false:=by rw[hd];rfl
 unfold SetTable.slot
 simp only[e]
 simp
theorem zEp {t:SetTable}(hd:t.dummies=#[]) {j:Nat}:t.slot j=.empty <-> t.place[SetTable.below t.place j]?≠some j:=by
 rw[zDh hd]
 by_cases c:t.place[SetTable.below t.place j]?=some j
 ·simp[c]
 ·simp[c]
structure Tab (t:SetTable) (n:Nat) (led:Bool):Prop where
 hm:Msk t.mask
 size:t.place.size=n
 nod:t.dummies=#[]
 up:Up t.place.toList
 room:n*5<t.mask*3
 plain:t.plain=true
 led:t.led=led
theorem Tab.fill {t:SetTable}{n:Nat}{b:Bool}(T:Tab t n b):t.fill=n:=by unfold SetTable.fill;rw[T.size,T.nod];rfl
theorem Tab.fits {t:SetTable}{n:Nat}{b:Bool}(T:Tab t n b):(t.place.size != n || decide (t.fill > t.mask))=false:=by
 have:=T.room
 rw[T.fill,T.size]
 simp;lia
theorem Tab.way {t:SetTable}{n:Nat}{b:Bool}(T:Tab t n b):t.gaveWay=false:=by
 unfold SetTable.gaveWay
 rcases T.hm with e|e|e|e <;> rw[e] <;> rfl
theorem Tab.start {t:SetTable}{n:Nat}{b:Bool}(T:Tab t n b) (h:Int):∃m,m<10*SetTable.turns t.mask/\Far t (t.probeStart h) m:=by
 have hn:t.place.toList.length<=t.mask:=by have:=T.room;have:=T.size;simp;lia
 obtain⟨e,he,hne⟩:=zXm T.up hn
 obtain⟨c,hc,ec⟩:=zO5 (t:=t) (h:=h) T.hm he
 refine⟨c,hc,?_,rfl⟩
 rw[ec,zEp T.nod]
 intro q
 exact hne (by
  obtain⟨hz,e'⟩:=vZ.mp q
  rw[<- e']
  simp)
theorem Tab.turns {t:SetTable}{n:Nat}{b:Bool}(T:Tab t n b):10*SetTable.turns t.mask<100000:=by
 rcases T.hm with e|e|e|e <;> rw[e] <;> decide
theorem zPt (b:Bool):Tab (SetTable.fresh 0 0 b) 0 b:=⟨.inl rfl,rfl,rfl,.nil,(show 0*5<7*3 by decide),rfl,rfl⟩
structure TabP (t:SetTable) (n:Nat) (led:Bool):Prop where
 hm:Msk t.mask
 size:t.place.size=n
 nod:t.dummies=#[]
 up:Up t.place.toList
 most:(n-1)*5<t.mask*3
 plain:t.plain=true
 led:t.led=led
theorem Tab.put {t:SetTable}{n j:Nat}{b:Bool}(T:Tab t n b) (hj:t.slot j=.empty):TabP (t.put j).1 (n+1) b:=by
 have e:SetTable.has t.dummies j=false:=by rw[T.nod];rfl
 have e2:(t.put j).1={ t with place:=SetTable.insertAt t.place (SetTable.below t.place j) j }:=by
  unfold SetTable.put
  simp[e]
 rw[e2]
 exact⟨T.hm,by show(SetTable.insertAt _ _ _).size=_;rw[zLy,T.size],T.nod,ins_up T.up ((zEp T.nod).mp hj),by show(n+1-1)*5<t.mask*3;have:=T.room;simpa using this,T.plain,T.led⟩
theorem TabP.fill {t:SetTable}{n:Nat}{b:Bool}(T:TabP t n b):t.fill=n:=by unfold SetTable.fill;rw[T.size,T.nod];rfl
theorem TabP.tab {t:SetTable}{n:Nat}{b:Bool}(T:TabP t n b) (h:t.tooFull=false):Tab t n b:=by
 refine⟨T.hm,T.size,T.nod,T.up,?_,T.plain,T.led⟩
 unfold SetTable.tooFull at h
 rw[T.fill]at h
 simpa using h
theorem TabP.fits {t:SetTable}{n:Nat}{b:Bool}(T:TabP t n b):(t.place.size != n || decide (t.fill > t.mask))=false:=by
 have h:=T.most
 have hm:7<=t.mask:=by rcases T.hm with e|e|e|e <;> rw[e] <;> decide
 rw[T.fill,T.size]
 simp;lia
theorem zI9 {m:Nat}{owner:Array (Option Nat)}{e:Nat}(ho:owner.getD e (some 0)=none):∀(L f:Nat) (x:Nat × Nat),L<f->(orb m L x).1=e->∃j,SetTable.layClean.free m owner f x.1 x.2=some j/\owner.getD j (some 0)=none
 | L,0,x,h,_=>by nofun
 | L,f+1,x,h,he=>by
  unfold SetTable.layClean.free
  cases hf:(List.range (SetTable.runEnd m x.1+1-x.1)).find? fun k=>(owner.getD (x.1+k) (some 0)).isNone with
  | some k=>
   have:=List.find?_some hf
   exact⟨x.1+k,rfl,by simpa using this⟩
  | none=>
   cases L with
   | zero=>
    have hx:x.1=e:=he
    have:=List.find?_eq_none.mp hf 0 (vq.mpr (by unfold SetTable.runEnd;split <;> lia))
    rw[Nat.add_zero,hx,ho]at this
    exact absurd rfl this
   | succ L=>exact zI9 ho L f (SetTable.leap m x.1 x.2) (by nofun) he
theorem zKf:∀(l:List (Option Nat)),(l.filterMap id).length<l.length->∃e,e<l.length/\l[e]?=some none
 | [],h=>by simp at h
 | none::l,_=>⟨0,by simp,rfl⟩
 | some v::l,h=>by
  obtain⟨e,h1,h2⟩:=zKf l (by simpa using h)
  exact⟨e+1,by simp;lia,by simpa using h2⟩
theorem zHt:∀(l:List (Option Nat)) (j k:Nat),l[j]?=some none->((l.set j (some k)).filterMap id).Perm (k::l.filterMap id)
 | [],j,k,h=>by simp at h
 | x::l,0,k,h=>by
  have:x=none:=by simpa using h
  subst this
  simp
 | x::l,j+1,k,h=>by
  have ih:=zHt l j k (by simpa using h)
  cases x with
  | none=>simpa using ih
  | some v=>
   simp only[List.set_cons_succ,uA,id]
   exact(List.Perm.cons v ih).trans (List.Perm.swap _ _ _)
noncomputable def Laid (m:Nat) (acc:Option (Array (Option Nat) × Nat)) (k:Nat):Prop:=∃owner,acc=some (owner,k)/\owner.size=m+1/\(owner.toList.filterMap id).Perm (List.range k)
theorem zPf {m k:Nat}(hm:Msk m) (hk:k<=m) {owner:Array (Option Nat)}(hs:owner.size=m+1) (hp:(owner.toList.filterMap id).Perm (List.range k)) (h:Int):
  ∃j,SetTable.layClean.free m owner (SetTable.turns m) (SetTable.bits h % (m+1)) (SetTable.bits h)=some j/\Laid m (some (owner.setIfInBounds j (some k),k+1)) (k+1):=by
 obtain⟨e,h1,h2⟩:=zKf owner.toList (by rw[hp.length_eq,yp];simp[hs];lia)
 have h1':e<owner.size:=by simpa using h1
 have ho:owner.getD e (some 0)=none:=by
  have:owner[e]?=some none:=by simpa using h2
  simp[vV,this]
 obtain⟨L,hL,eL⟩:=zKd (p:=SetTable.bits h) (i:=SetTable.bits h % (m+1)) hm (Nat.mod_lt _ (by nofun)) (zL1 h) (show e<m+1 by nofun)
 obtain⟨j,ej,hj⟩:=zI9 ho L (SetTable.turns m) (SetTable.bits h % (m+1),SetTable.bits h) (by unfold SetTable.turns;lia) eL
 refine⟨j,ej,_,rfl,by simpa using hs,?_⟩
 have hj2:owner.toList[j]?=some none:=by
  rw[vV]at hj
  cases hq:owner[j]? with
  | none=>rw[hq]at hj;cases hj
  | some v=>rw[hq]at hj;have:v=none:=hj;subst this;simpa using hq
 rw[Array.toList_setIfInBounds]
 refine(zHt _ j k hj2).trans ((List.Perm.cons k hp).trans ?_)
 rw[List.range_succ]
 exact(List.perm_append_singleton k (List.range k)).symm
theorem zLv {m:Nat}(hm:Msk m):∀(hs:List Int) (k:Nat) (acc:Option (Array (Option Nat) × Nat)),k+hs.length<=m+1->Laid m acc k->
  Laid m (hs.foldl (fun acc h=>do
   let (owner,k) <- acc
   let j <- SetTable.layClean.free m owner (SetTable.turns m) (SetTable.bits h % (m+1)) (SetTable.bits h)
   pure (owner.setIfInBounds j (some k),k+1)) acc) (k+hs.length)
 | [],k,acc,_,L=>L
 | h::hs,k,acc,hl,⟨owner,ea,h1,h2⟩=>by
  subst ea
  obtain⟨j,ej,L⟩:=zPf hm (by simp at hl;lia) h1 h2 h
  have:=zLv hm hs (k+1) _ (by simp at hl;lia) L
  rw[List.foldl_cons]
  have e2:(do
   let (owner,k) <- some (owner,k)
   let j <- SetTable.layClean.free m owner (SetTable.turns m) (SetTable.bits h % (m+1)) (SetTable.bits h)
   pure (owner.setIfInBounds j (some k),k+1))=some (owner.setIfInBounds j (some k),k+1):=by
   show(SetTable.layClean.free m owner (SetTable.turns m) (SetTable.bits h % (m+1)) (SetTable.bits h) >>= fun j=>pure (owner.setIfInBounds j (some k),k+1))=_
   rw[ej];rfl
  rw[e2,xE,show k+(hs.length+1)=k+1+hs.length by nofun]
  exact this
theorem zLu:∀(l:List (Option Nat)) (g:Nat->Nat),((List.range l.length).filterMap fun j=>((l[j]?).getD none).map fun v=>(g j,v)).map (·.2)=l.filterMap id
 | [],g=>rfl
 | x::l,g=>by
  have ih:=zLu l (fun j=>g (j+1))
  rw[xE,List.range_succ_eq_map,uA]
  have e:((List.map Nat.succ (List.range l.length)).filterMap fun j=>(((x::l)[j]?).getD none).map fun v=>(g j,v))=(List.range l.length).filterMap fun j=>((l[j]?).getD none).map fun v=>(g (j+1),v):=by
   rw[List.filterMap_map];rfl
  cases x with
  | none=>simp only[uI,Option.getD_some,Option.map_none];rw[e,ih];rfl
  | some v=>simp only[uI,Option.getD_some,vL,xt];rw[e,ih];rfl
theorem zKk (f:Nat->Option Nat):∀(l:List Nat),Up l->Up ((l.filterMap fun j=>(f j).map fun v=>(j,v)).map (·.1))
 | [],_=>.nil
 | x::l,u=>by
  have ux:=ua.mp u
  rw[uA]
  cases hx:f x with
  | none=>exact zKk f l ux.2
  | some v=>
   simp only[vL,xt]
   refine ua.mpr ⟨fun y hy=>?_,zKk f l ux.2⟩
   obtain⟨q,hq,rfl⟩:=xq.mp hy
   obtain⟨z,hz,ez⟩:=uT.mp hq
   cases hf:f z with
   | none=>rw[hf]at ez;cases ez
   | some w=>rw[hf]at ez;cases ez;exact ux.1 _ hz
theorem zWa {m:Nat}(hm:Msk m) {hs:Array Int}(hl:hs.size<=m) (hr:hs.size*5<m*3) (fing moves:Nat) (led:Bool):∃t order,SetTable.laid m fing moves led true hs=some (t,order)/\Tab t hs.size led/\order.toList.Perm (List.range hs.size):=by
 obtain⟨owner,e,h1,h2⟩:=zLv hm hs.toList 0 (some (Array.replicate (m+1) none,0)) (by simp;lia) ⟨_,rfl,by simp,by simp⟩
 have ec:SetTable.layClean m hs=some owner:=by
  unfold SetTable.layClean
  rw[<- Array.foldl_toList,e]
  rfl
 have es:=zLu owner.toList id
 have eg:∀j,(owner.getD j none).map (j,·)=((owner.toList[j]?).getD none).map fun v=>(id j,v):=fun j=>by
  rw[vV];simp
 refine⟨_,_,by unfold SetTable.laid;rw[ec];rfl,⟨hm,?_,rfl,?_,hr,rfl,rfl⟩,?_⟩
 ·show(List.map _ _).toArray.size=_
  rw[xx,xp,<- xp (f:=(·.2))]
  rw[<- h1] 
  rw[show owner.size=owner.toList.length by simp]
  simp only[eg]
  rw[es,h2.length_eq]
  simp
 ·show Up (List.map _ _).toArray.toList
  exact zKk _ _ (List.pairwise_lt_range)
 ·show(List.map _ _).toArray.toList.Perm _
  rw[<- h1,show owner.size=owner.toList.length by simp]
  simp only[eg]
  rw[List.toList_toArray,es]
  simpa using h2
end TB
namespace TB
open PySem
theorem zEm {t t':SetTable}(h:t.mask=t'.mask):∀(m:Nat) (p:SetTable.Probe),adv t m p=adv t' m p
 | 0,_=>rfl
 | m+1,p=>by
  show adv t m (t.advance p)=adv t' m (t'.advance p)
  have e:t.advance p=t'.advance p:=by unfold SetTable.advance;rw[h]
  rw[e];exact zEm h m _
theorem zDq {t t':SetTable}(h:t.mask=t'.mask) (x:Int):t.probeStart x=t'.probeStart x:=by unfold SetTable.probeStart;rw[h]
theorem zSj {xs:Array Nat}{j:Nat}(u:Up xs.toList):xs[SetTable.below xs j]?=some j <-> j∈xs.toList:=by
 constructor
 ·intro h
  obtain⟨z,e⟩:=vZ.mp h
  rw[<- e];simp
 ·intro h
  obtain⟨i,hi,e⟩:=v8.mp h
  have hi':i<xs.size:=by simpa using hi
  have e':xs[i]=j:=by simpa using e
  obtain⟨a,b,c⟩:=zIm j u
  have h1:¬ i<SetTable.below xs j:=fun q=>by have:=b i hi' q;lia
  have h2:¬ SetTable.below xs j<i:=fun q=>by
   have h3:=c _ (by nofun) (xi _)
   have:=zGw u q (by simpa using hi')
   have:xs[SetTable.below xs j]'(by nofun)<xs[i]:=by simpa using this
   lia
  have h3:SetTable.below xs j=i:=by nofun
  rw[h3,vx hi',e']
theorem zJk {t:SetTable}{n:Nat}{b:Bool}(T:Tab t n b) (j:Nat):t.slot j=.empty <-> j ∉ t.place.toList:=by
 rw[zEp T.nod,ne_eq,zSj T.up]
noncomputable def Chn (t:SetTable) (h:Int) (j:Nat):Prop:=∃m,(adv t m (t.probeStart h)).j=j/\∀m',m'<m->(adv t m' (t.probeStart h)).j∈t.place.toList
noncomputable def Chs (t:SetTable) (hs:List Int):Prop:=∀q∈t.place.toList.zip hs,Chn t q.2 q.1
theorem Chn.grow {t t':SetTable}{h:Int}{j:Nat}(c:Chn t h j) (hm:t.mask=t'.mask) (hp:∀j∈t.place.toList,j∈t'.place.toList):Chn t' h j:=by
 obtain⟨m,e,al⟩:=c
 refine⟨m,by rw[<- zDq hm,<- zEm hm];exact e,fun m' hm'=>?_⟩
 rw[<- zDq hm,<- zEm hm]
 exact hp _ (al m' hm')
theorem zNq {α β:Type}:∀(p:Nat) (a:List α) (b:List β) (x:α) (y:β),a.length=b.length->∀q∈(a.take p++x::a.drop p).zip (b.take p++y::b.drop p),q=(x,y)\/q∈a.zip b
 | 0,a,b,x,y,h,q,hq=>by
  simp only[List.take_zero,ur,List.drop_zero,uJ]at hq
  exact xm.mp hq
 | p+1,[],[],x,y,h,q,hq=>by
  simp at hq
  exact .inl hq
 | p+1,c::a,d::b,x,y,h,q,hq=>by
  simp only[List.take_succ_cons,List.drop_succ_cons,yq,uJ]at hq
  rcases xm.mp hq with rfl|hq
  ·exact .inr (xQ)
  ·rcases zNq p a b x y (by simpa using h) q hq with z|z
   ·exact .inl z
   ·exact .inr (vt _ z)
 | p+1,[],_::_,x,y,h,q,hq=>by simp at h
 | p+1,_::_,[],x,y,h,q,hq=>by simp at h
theorem zV6 {t:SetTable}{n j M:Nat}{b:Bool}{hs:List Int}{h:Int}(T:Tab t n b) (hn:hs.length=n) (C:Chs t hs) (hj:t.slot j=.empty) (hM:(adv t M (t.probeStart h)).j=j) (al:∀m',m'<M->(adv t m' (t.probeStart h)).j∈t.place.toList):
  Chs (t.put j).1 (hs.take (t.put j).2++h::hs.drop (t.put j).2)/\(t.put j).2=SetTable.below t.place j:=by
 have e:SetTable.has t.dummies j=false:=by rw[T.nod];rfl
 have e2:t.put j=({ t with place:=SetTable.insertAt t.place (SetTable.below t.place j) j },SetTable.below t.place j):=by
  unfold SetTable.put
  simp[e]
 rw[e2]
 have pl:({ t with place:=SetTable.insertAt t.place (SetTable.below t.place j) j }:SetTable).place.toList=t.place.toList.take (SetTable.below t.place j)++j::t.place.toList.drop (SetTable.below t.place j):=zFg _ _ _
 have sub:∀i∈t.place.toList,i∈({ t with place:=SetTable.insertAt t.place (SetTable.below t.place j) j }:SetTable).place.toList:=fun i hi=>(ins_perm t.place _ j).mem_iff.mpr (vt _ hi)
 refine⟨fun q hq=>?_,rfl⟩
 rw[pl]at hq
 rcases zNq _ _ _ _ _ (by simp[T.size,hn]) q hq with rfl|z
 ·exact Chn.grow (t:=t) ⟨M,hM,al⟩ rfl sub
 ·exact(C q z).grow rfl sub
theorem zMh (t:SetTable):∀(c:Nat) (p:SetTable.Probe),c<=p.more->(adv t c p).j=p.j+c
 | 0,p,_=>rfl
 | c+1,p,h=>by
  show(adv t c (t.advance p)).j=_
  have e:t.advance p={ p with j:=p.j+1,more:=p.more-1 }:=by
   unfold SetTable.advance
   rw[xf (by nofun)]
  rw[e,zMh t c _ (by show c<=p.more-1;lia)]
  show p.j+1+c=p.j+(c+1)
  lia
theorem zM0 {t:SetTable}{owner:Array (Option Nat)}:∀(f:Nat) (x:Nat × Nat) (j:Nat),SetTable.layClean.free t.mask owner f x.1 x.2=some j->
  ∃m,(adv t m (beg t x none)).j=j/\∀m',m'<m->owner.getD (adv t m' (beg t x none)).j (some 0)≠none
 | 0,x,j,h=>by cases h
 | f+1,x,j,h=>by
  unfold SetTable.layClean.free at h
  have rl:SetTable.runEnd t.mask x.1+1-x.1=(beg t x none).more+1:=by
   show _=SetTable.runEnd t.mask x.1-x.1+1
   unfold SetTable.runEnd;split <;> lia
  rw[rl]at h
  cases hf:(List.range ((beg t x none).more+1)).find? fun k=>(owner.getD (x.1+k) (some 0)).isNone with
  | some k=>
   rw[hf]at h
   have ej:x.1+k=j:=xJ h
   obtain⟨h1,h2,h3⟩:=List.find?_range_eq_some.mp hf
   have hk:k<(beg t x none).more+1:=vq.mp h2
   refine⟨k,by rw[zMh t k _ (by nofun)];exact ej,fun m' hm'=>?_⟩
   rw[zMh t m' _ (by nofun)]
   have:=h3 m' hm'
   intro z
   have z':owner.getD (x.1+m') (some 0)=none:=z
   rw[z']at this
   simp at this
  | none=>
   rw[hf]at h
   obtain⟨m,e,al⟩:=zM0 f (SetTable.leap t.mask x.1 x.2) j h
   refine⟨(beg t x none).more+1+m,by rw[zDc,zIo t _ _ rfl];exact e,fun m' hm'=>?_⟩
   rcases vC m' ((beg t x none).more+1)with z|z
   ·rw[zMh t m' _ (by nofun)]
    have:=List.find?_eq_none.mp hf m' (vq.mpr z)
    intro w
    have w':owner.getD (x.1+m') (some 0)=none:=w
    rw[w']at this
    simp at this
   ·obtain⟨c,rfl⟩:∃c,m'=(beg t x none).more+1+c:=⟨m' - ((beg t x none).more+1),by nofun⟩
    rw[zDc,zIo t _ _ rfl]
    exact al c (by nofun)
end TB
namespace TB
open PySem
theorem zTs (m i:Nat) (h:i<=m):SetTable.runEnd m i<=m:=by unfold SetTable.runEnd;split <;> lia
theorem zTt (m i:Nat):i<=SetTable.runEnd m i:=by unfold SetTable.runEnd;split <;> lia
theorem zUe (t:SetTable):∀(m:Nat) (p:SetTable.Probe),p.j+p.more<=t.mask->(adv t m p).j<=t.mask
 | 0,p,h=>by show p.j<=_;lia
 | m+1,p,h=>by
  refine zUe t m (t.advance p) ?_
  unfold SetTable.advance
  by_cases c:p.more > 0
  ·rw[xf c];show p.j+1+(p.more-1)<=_;lia
  ·rw[xg c]
   have:(p.i*5+1+p.perturb / 32) % (t.mask+1)<t.mask+1:=Nat.mod_lt _ (by nofun)
   show(p.i*5+1+p.perturb / 32) % (t.mask+1)+(SetTable.runEnd t.mask ((p.i*5+1+p.perturb / 32) % (t.mask+1))-(p.i*5+1+p.perturb / 32) % (t.mask+1))<=t.mask
   have a:=zTs t.mask ((p.i*5+1+p.perturb / 32) % (t.mask+1)) (by nofun)
   have b:=zTt t.mask ((p.i*5+1+p.perturb / 32) % (t.mask+1))
   lia
theorem zRd (t:SetTable) (h:Int) (m:Nat):(adv t m (t.probeStart h)).j<=t.mask:=by
 refine zUe t m _ ?_
 have:SetTable.bits h % (t.mask+1)<t.mask+1:=Nat.mod_lt _ (by nofun)
 show SetTable.bits h % (t.mask+1)+(SetTable.runEnd t.mask (SetTable.bits h % (t.mask+1))-SetTable.bits h % (t.mask+1))<=t.mask
 have a:=zTs t.mask (SetTable.bits h % (t.mask+1)) (by nofun)
 have b:=zTt t.mask (SetTable.bits h % (t.mask+1))
 lia
noncomputable def OwnC (t:SetTable) (hs:List Int) (owner:Array (Option Nat)):Prop:=∀j v,owner[j]?=some (some v)->∃m,(adv t m (t.probeStart (hs.getD v 0))).j=j/\∀m',m'<m->owner.getD (adv t m' (t.probeStart (hs.getD v 0))).j (some 0)≠none
noncomputable def zXg (t:SetTable) (hs:List Int) (acc:Option (Array (Option Nat) × Nat)) (k:Nat):Prop:=∃owner,acc=some (owner,k)/\owner.size=t.mask+1/\(owner.toList.filterMap id).Perm (List.range k)/\OwnC t hs owner
theorem zN0 {t:SetTable}{hs:List Int}{k:Nat}(hm:Msk t.mask) (hk:k<=t.mask) {owner:Array (Option Nat)}(hz:owner.size=t.mask+1) (hp:(owner.toList.filterMap id).Perm (List.range k)) (C:OwnC t hs owner) {h:Int}(eh:hs.getD k 0=h):
  ∃j,SetTable.layClean.free t.mask owner (SetTable.turns t.mask) (SetTable.bits h % (t.mask+1)) (SetTable.bits h)=some j/\zXg t hs (some (owner.setIfInBounds j (some k),k+1)) (k+1):=by
 obtain⟨e,h1,h2⟩:=zKf owner.toList (by rw[hp.length_eq,yp];simp[hz];lia)
 have h1':e<owner.size:=by simpa using h1
 have ho:owner.getD e (some 0)=none:=by
  have:owner[e]?=some none:=by simpa using h2
  simp[vV,this]
 obtain⟨L,hL,eL⟩:=zKd (p:=SetTable.bits h) (i:=SetTable.bits h % (t.mask+1)) hm (Nat.mod_lt _ (by nofun)) (zL1 h) (show e<t.mask+1 by nofun)
 obtain⟨j,ej,hj⟩:=zI9 ho L (SetTable.turns t.mask) (SetTable.bits h % (t.mask+1),SetTable.bits h) (by unfold SetTable.turns;lia) eL
 have hj1:owner[j]?=some none:=by
  rw[vV]at hj
  cases hq:owner[j]? with
  | none=>rw[hq]at hj;cases hj
  | some v=>rw[hq]at hj;have:v=none:=hj;subst this;rfl
 have hj2:owner.toList[j]?=some none:=by simpa using hj1
 have hjz:j<owner.size:=(vZ.mp hj1).1
 have gd:∀i,owner.getD i (some 0)≠none->(owner.setIfInBounds j (some k)).getD i (some 0)≠none:=fun i hi=>by
  rw[vV]at hi ⊢
  rw[Array.getElem?_setIfInBounds]
  by_cases c:j=i
  ·rw[xf c];split <;> simp
  ·rw[xg c];exact hi
 refine⟨j,ej,_,rfl,by simpa using hz,?_,fun i v hv=>?_⟩
 ·rw[Array.toList_setIfInBounds]
  refine(zHt _ j k hj2).trans ((List.Perm.cons k hp).trans ?_)
  rw[List.range_succ]
  exact(List.perm_append_singleton k (List.range k)).symm
 ·rw[Array.getElem?_setIfInBounds]at hv
  by_cases c:j=i
  ·rw[xf c,xf hjz]at hv
   have ev:k=v:=by simpa using hv
   subst ev c
   obtain⟨m,em,al⟩:=zM0 _ (SetTable.bits h % (t.mask+1),SetTable.bits h) j ej
   rw[eh]
   exact⟨m,em,fun m' hm'=>gd _ (al m' hm')⟩
  ·rw[xg c]at hv
   obtain⟨m,em,al⟩:=C i v hv
   exact⟨m,em,fun m' hm'=>gd _ (al m' hm')⟩
theorem zJ8 {t:SetTable}(hm:Msk t.mask) (hs0:List Int):∀(hs:List Int) (k:Nat) (acc:Option (Array (Option Nat) × Nat)),k+hs.length<=t.mask+1->(∀i,hs.getD i 0=hs0.getD (k+i) 0)->zXg t hs0 acc k->
  zXg t hs0 (hs.foldl (fun acc h=>do
   let (owner,k) <- acc
   let j <- SetTable.layClean.free t.mask owner (SetTable.turns t.mask) (SetTable.bits h % (t.mask+1)) (SetTable.bits h)
   pure (owner.setIfInBounds j (some k),k+1)) acc) (k+hs.length)
 | [],k,acc,_,_,L=>L
 | h::hs,k,acc,hl,he,⟨owner,ea,h1,h2,h3⟩=>by
  subst ea
  obtain⟨j,ej,L⟩:=zN0 hm (by simp at hl;lia) h1 h2 h3 (h:=h) (by have:=he 0;simpa using this.symm)
  have:=zJ8 hm hs0 hs (k+1) _ (by simp at hl;lia) (fun i=>by have:=he (i+1);rw[show k+1+i=k+(i+1) by nofun];simpa using this) L
  rw[List.foldl_cons]
  have e2:(do
   let (owner,k) <- some (owner,k)
   let j <- SetTable.layClean.free t.mask owner (SetTable.turns t.mask) (SetTable.bits h % (t.mask+1)) (SetTable.bits h)
   pure (owner.setIfInBounds j (some k),k+1))=some (owner.setIfInBounds j (some k),k+1):=by
   show(SetTable.layClean.free t.mask owner (SetTable.turns t.mask) (SetTable.bits h % (t.mask+1)) (SetTable.bits h) >>= fun j=>pure (owner.setIfInBounds j (some k),k+1))=_
   rw[ej];rfl
  rw[e2,xE,show k+(hs.length+1)=k+1+hs.length by nofun]
  exact this
theorem zSo {m:Nat}(hm:Msk m) {hs:Array Int}(hl:hs.size<=m) (hr:hs.size*5<m*3) (fing moves:Nat) (led:Bool):∃t order,SetTable.laid m fing moves led true hs=some (t,order)/\Tab t hs.size led/\order.toList.Perm (List.range hs.size)/\Chs t (order.toList.map fun k=>hs.toList.getD k 0):=by
 let t0:SetTable:={ mask:=m,place:=#[],dummies:=#[],finger:=fing,led:=led,moves:=moves,plain:=true }
 obtain⟨owner,e,h1,h2,h3⟩:=zJ8 (t:=t0) hm hs.toList hs.toList 0 (some (Array.replicate (m+1) none,0)) (by show 0+hs.toList.length<=m+1;simp;lia) (fun i=>by rw[vK]) ⟨_,rfl,by show _=m+1;simp,by show((Array.replicate (m+1) (none:Option Nat)).toList.filterMap id).Perm (List.range 0);simp,fun j v hv=>by rw[Array.getElem?_replicate]at hv;split at hv <;> cases hv⟩
 have h1:owner.size=m+1:=h1
 have ec:SetTable.layClean m hs=some owner:=by
  unfold SetTable.layClean
  rw[<- Array.foldl_toList]
  have e':(hs.toList.foldl (fun acc h=>do
   let (owner,k) <- acc
   let j <- SetTable.layClean.free m owner (SetTable.turns m) (SetTable.bits h % (m+1)) (SetTable.bits h)
   pure (owner.setIfInBounds j (some k),k+1)) (some (Array.replicate (m+1) none,0)))=some (owner,0+hs.toList.length):=e
  rw[e']
  rfl
 obtain⟨t,order,a,T,p⟩:=zWa hm hl hr fing moves led
 refine⟨t,order,a,T,p,?_⟩
 unfold SetTable.laid at a
 rw[ec]at a
 have a':((({ mask:=m,place:=(((List.range (m+1)).filterMap fun j=>(owner.getD j none).map (j,·)).map (·.1)).toArray,dummies:=#[],finger:=fing,led:=led,moves:=moves,plain:=true }:SetTable),(((List.range (m+1)).filterMap fun j=>(owner.getD j none).map (j,·)).map (·.2)).toArray):SetTable × Array Nat)=(t,order):=xJ a
 obtain⟨e1,e2⟩:=Prod.mk.inj a'
 have mem:∀j,j<=m->owner.getD j (some 0)≠none->j∈t.place.toList:=fun j hj hn=>by
  rw[<- e1]
  show j∈(List.map (fun r:Nat × Nat=>r.1) _).toArray.toList
  have hz:j<owner.size:=by nofun
  have hg:owner[j]?=some owner[j]:=vx hz
  rw[vV,hg]at hn
  cases hv:owner[j]with
  | none=>rw[hv]at hn;exact absurd rfl hn
  | some v=>exact xq.mpr ⟨(j,v),uT.mpr ⟨j,vq.mpr (by nofun),by rw[vV,hg,hv];rfl⟩,rfl⟩
 have tm:t.mask=t0.mask:=by rw[<- e1]
 intro q hq
 have zq:∃r∈((List.range (m+1)).filterMap fun j=>(owner.getD j none).map (j,·)),q=(r.1,hs.toList.getD r.2 0):=by
  rw[<- e1,<- e2]at hq
  simp only[xP]at hq
  generalize ((List.range (m+1)).filterMap fun j=>(owner.getD j none).map (j,·))=live at hq
  clear a a' e1 e2 T p mem
  induction live with
  | nil=>simp at hq
  | cons r live ih=>
   simp only[xt,uJ]at hq
   rcases xm.mp hq with rfl|hq
   ·exact⟨r,.head _,rfl⟩
   ·obtain⟨r',hr',e'⟩:=ih hq
    exact⟨r',.tail _ hr',e'⟩
 obtain⟨⟨j,v⟩,hr,rfl⟩:=zq
 obtain⟨j',hj',ej⟩:=uT.mp hr
 have hov:owner[j']?=some (some v)/\j'=j:=by
  rw[vV]at ej
  cases ho:owner[j']? with
  | none=>rw[ho]at ej;cases ej
  | some w=>
   rw[ho]at ej
   cases w with
   | none=>cases ej
   | some u=>cases ej;exact⟨rfl,rfl⟩
 obtain⟨hov,rfl⟩:=hov
 obtain⟨mm,em,al⟩:=h3 j' v hov
 refine⟨mm,by rw[zDq tm,zEm tm];exact em,fun m' hm'=>?_⟩
 rw[zDq tm,zEm tm]
 exact mem _ (zRd t0 _ m') (al m' hm')
end TB
namespace TB
open PySem
theorem zGy {t:SetTable}{hashAt:Nat->Int}{h:Int}(hd:t.dummies=#[]):∀(f m:Nat) (p:SetTable.Probe),m<f->Far t p m->
  (∃d,d<=m/\SetTable.probe.go t hashAt h f p=some (.empty (adv t d p).j none)/\t.slot (adv t d p).j=.empty/\∀d',d'<d->∃i,t.slot (adv t d' p).j=.live i/\(hashAt i == h)=false) \/
  (∃d i,d<m/\SetTable.probe.go t hashAt h f p=some (.candidate (adv t d p).j i (adv t (d+1) p))/\t.slot (adv t d p).j=.live i/\(∀d',d'<d->∃i,t.slot (adv t d' p).j=.live i/\(hashAt i == h)=false)/\Far t (adv t (d+1) p) (m-(d+1)))
 | 0,m,p,hf,_=>by nofun
 | f+1,m,p,hf,⟨hm,hp⟩=>by
  unfold SetTable.probe.go
  have nd:=zDh hd p.j
  cases hs:t.slot p.j with
  | empty=>exact .inl ⟨0,xR _,by rw[hp];rfl,hs,fun d' h=>by nofun⟩
  | dummy=>rw[hs]at nd;split at nd <;> cases nd
  | live i=>
   obtain⟨m',rfl⟩:∃m',m=m'+1:=by
    cases m with
    | zero=>
     have:t.slot p.j=.empty:=hm
     rw[hs]at this;cases this
    | succ k=>exact⟨k,rfl⟩
   have fr:Far t (t.advance p) m':=⟨hm,(zK1 t 1 p).trans hp⟩
   dsimp only
   by_cases c:(hashAt i == h)=true
   ·rw[xf c]
    exact .inr ⟨0,i,by nofun,rfl,hs,fun d' h=>by nofun,by rw[show m'+1-(0+1)=m' by nofun];exact fr⟩
   ·rw[xg c]
    have c':(hashAt i == h)=false:=by simpa using c
    rcases zGy hd f m' _ (by nofun) fr with⟨d,h1,h2,h3,h4⟩|⟨d,i',h1,h2,h3,h4,h5⟩
    ·refine .inl ⟨d+1,by nofun,h2,h3,fun d' hd'=>?_⟩
     cases d' with
     | zero=>exact⟨i,hs,c'⟩
     | succ d'=>exact h4 d' (by nofun)
    ·refine .inr ⟨d+1,i',by nofun,h2,h3,fun d' hd'=>?_,by rw[show m'+1-(d+1+1)=m' - (d+1) by nofun];exact h5⟩
     cases d' with
     | zero=>exact⟨i,hs,c'⟩
     | succ d'=>exact h4 d' (by nofun)
theorem zKl {t:SetTable}{n j i:Nat}{b:Bool}(T:Tab t n b) (h:t.slot j=.live i):t.place[i]?=some j:=by
 rw[zDh T.nod]at h
 split at h
 ·rename_i c
  cases h
  exact eq_of_beq c
 ·cases h
theorem zW8 {t:SetTable}{n j i:Nat}{b:Bool}(T:Tab t n b) (h:t.slot j=.live i):j∈t.place.toList:=by
 obtain⟨z,e⟩:=vZ.mp (zKl T h)
 rw[<- e];simp
theorem zXl {l:List Nat}(u:Up l) {i j:Nat}(hi:i<l.length) (hj:j<l.length) (e:l[i]=l[j]):i=j:=by
 rcases Nat.lt_trichotomy i j with z|z|z
 ·have:=zGw u z hj;lia
 ·exact z
 ·have:=zGw u z hi;lia
theorem zOi {t:SetTable}{n:Nat}{b:Bool}(T:TabP t n b) (hf:t.tooFull=true) (hn:n<=300) (hs:Array Int) (hz:hs.size=n):
  (decide (SetTable.sizeAbove (SetTable.grown n) > sizeLine)=false)/\∃t' order,t.relaid hs (SetTable.grown n)=some (t',order)/\Tab t' n b/\order.toList.Perm (List.range n)/\Chs t' (order.toList.map fun k=>hs.toList.getD k 0):=by
 have h1:=T.most
 unfold SetTable.tooFull at hf
 rw[T.fill]at hf
 have hf:t.mask*3<=n*5:=by simpa using hf
 have c:n=5\/n=19\/n=77:=by
  rcases T.hm with e|e|e|e <;> rw[e]at h1 hf <;> lia
 have key:∀M,Msk M->SetTable.sizeAbove (SetTable.grown n)=M+1->n<=M->n*5<M*3->∃t' order,t.relaid hs (SetTable.grown n)=some (t',order)/\Tab t' n b/\order.toList.Perm (List.range n)/\Chs t' (order.toList.map fun k=>hs.toList.getD k 0):=fun M hM e1 e2 e3=>by
  obtain⟨t',order,a,T',p,C⟩:=zSo hM (hs:=hs) (by nofun) (by nofun) t.finger (t.movedTo M) b
  rw[hz]at T' p
  refine⟨t',order,?_,T',p,C⟩
  unfold SetTable.relaid
  rw[e1,T.plain,T.led]
  exact a
 rcases c with rfl|rfl|rfl
 ·exact⟨by decide +kernel,key 31 (by simp[Msk]) (by decide +kernel) (by decide) (by decide)⟩
 ·exact⟨by decide +kernel,key 127 (by simp[Msk]) (by decide +kernel) (by decide) (by decide)⟩
 ·exact⟨by decide +kernel,key 511 (by simp[Msk]) (by decide +kernel) (by decide) (by decide)⟩
end TB
namespace TS
open PySem TB
noncomputable abbrev sObj (es:Array (Int × Value)) (ep:Nat) (t:SetTable):Obj:={ cls:=.type "set",dict:=none,data:=.set es ep t,slots:=#[] }
theorem Tab.ft {t:SetTable}{n:Nat}{b:Bool}(T:Tab t n b):t.fits n=true:=by
 have:=T.fits
 unfold SetTable.fits
 simp at this ⊢
 exact⟨this.1,this.2⟩
theorem TabP.ft {t:SetTable}{n:Nat}{b:Bool}(T:TabP t n b):t.fits n=true:=by
 have:=T.fits
 unfold SetTable.fits
 simp at this ⊢
 exact⟨this.1,this.2⟩
section
variable {prog:Program}{w:World}{A:Around}{E:Value->Shared->Prop}{s:Shared}
theorem gate {M:Model}{α:Type}{c:Prop}[Decidable c] {m:Sem Bool}{U R:Sem α}{Q:α->Shared->Prop}(hm:∀Q':Bool->Shared->Prop,Q' false s->wpAny M A m Q' E s) (hR:wpAny M A R Q E s):
  wpAny M A (if c then m >>= fun b=>if b=true then U else R else R) Q E s:=by
 by_cases h:c
 ·rw[xf h]
  exact xa (hm _ (by rw[xg (by decide)];exact hR))
 ·rw[xg h];exact hR
noncomputable def adr:Value->Addr
 | .ref a=>a
 | _=>0
end
end TS
namespace TS
open PySem TB
noncomputable abbrev zFw (w:World):Bool:=!(w.params.followText "set-order")
section
variable {prog:Program}{w:World}{A:Around}{E:Value->Shared->Prop}{s:Shared}
noncomputable abbrev nObj (w:World):Obj:=sObj #[] 0 (.fresh 0 0 (zFw w))
theorem zLf (a:Value) {Q₁:Value->Shared->Prop}(h:Q₁ (.ref s.heap.objs.size) { s with heap:=s.heap.push (nObj w) }):
  codeAny (model prog w) A (.call (.builtin "set.__new__") ⟨[.type "set",a],[]⟩) (wants Q₁ E) s:=by
 refine codeAny_of_tree (show wpAny _ A.in1 (checkBuiltinCall "set.__new__" ⟨[.type "set",a],[]⟩ >>= fun _=>again (.builtin "set.__new__" ⟨[.type "set",a],[]⟩)) _ _ s from ?_)
 refine xa (wpAny_of_eq (F.newCall_set_1 a) (xh ⟨u3 F.plain_set_new _,uu F.entry_set_new ?_⟩));rw[yr F.plain_set_new _]
 unfold Builtin.«set.__new__» Builtin.Frozenset.newClass;have hsub:=sub_set_self;obtain⟨hp,g,d,tk,os⟩:=s;dsimp only;wp_walk
 refine yt (xh ?_);dsimp only;simp only[newObj]
 exact xa (wpAny_alloc (xh (xh h)))
end
end TS
namespace TS
open PySem TB
theorem si_next:Slot "set_iterator" "__next__" "set_iterator.__next__":=
 .of (owner:="set_iterator") (n:="__next__") (by rw[yk,ym];kernel_rfl) (by decide +kernel) (by decide +kernel) (by decide +kernel) (by first|exact .inl (by decide +kernel)|exact .inr (by decide +kernel)) (by rw[isSubtype_type];kernel_rfl)
theorem zLe:entryFor table "set_iterator.__next__"=some Builtin.«set_iterator.__next__»:=entryFor_of_tree (by kernel_rfl)
theorem zOb (a:Value):argsOk "set_iterator.__next__" ⟨[a],[]⟩:=by unfold argsOk;kernel_rfl
theorem zO9:Slot "set_iterator" "__iter__" "set_iterator.__iter__":=
 .of (owner:="set_iterator") (n:="__iter__") (by rw[yk,ym];kernel_rfl) (by decide +kernel) (by decide +kernel) (by decide +kernel) (by first|exact .inl (by decide +kernel)|exact .inr (by decide +kernel)) (by rw[isSubtype_type];kernel_rfl)
theorem zOa:entryFor table "set_iterator.__iter__"=some Builtin.«dict_keyiterator.__iter__»:=entryFor_alias (id':="dict_keyiterator.__iter__") (by kernel_rfl) rfl (by decide +kernel) (by kernel_rfl)
theorem zRg (a:Value):argsOk "set_iterator.__iter__" ⟨[a],[]⟩:=by unfold argsOk;kernel_rfl
theorem yAg:entryFor table "set.__iter__"=some Builtin.«frozenset.__iter__»:=entryFor_alias (id':="frozenset.__iter__") (by kernel_rfl) rfl (by decide +kernel) (by kernel_rfl)
theorem zHa {α:Type}:∀(l:List α) (i:Nat) (h:i<l.length),(l[i]::l.eraseIdx i).Perm l
 | [],i,h=>by simp at h
 | x::l,0,h=>by simp
 | x::l,i+1,h=>by
  simp only[List.getElem_cons_succ,List.eraseIdx_cons_succ]
  exact(List.Perm.swap _ _ _).trans (List.Perm.cons x (zHa l i (by simpa using h)))
theorem zOv {α:Type}(next:Nat->Nat):∀(f k:Nat) (left:List α) (out:Array α),left.length=f->∃l,(pickOrder.go next f k left out).toList=out.toList++l/\l.Perm left
 | 0,k,left,out,h=>⟨[],by simp[pickOrder.go],by rw[List.length_eq_zero_iff.mp h]⟩
 | f+1,k,left,out,h=>by
  have hl:next k % left.length<left.length:=Nat.mod_lt _ (by nofun)
  unfold pickOrder.go
  rw[xD hl]
  dsimp only
  obtain⟨l,e,p⟩:=zOv next f (k+1) (left.eraseIdx (next k % left.length)) (out.push left[next k % left.length]) (by rw[List.length_eraseIdx];simp[hl];lia)
  refine⟨left[next k % left.length]::l,by rw[e];simp,(List.Perm.cons _ p).trans ?_⟩
  exact zHa left _ hl
theorem zOu {α:Type}(next:Nat->Nat) (xs:Array α):(pickOrder next xs).toList.Perm xs.toList:=by
 obtain⟨l,e,p⟩:=zOv next xs.size 0 xs.toList #[] (by simp)
 unfold pickOrder
 rw[e]
 simpa using p
noncomputable def ordW (w:World) (S:Addr) (ep:Nat) (es:Array (Int × Value)):Array (Int × Value):=if w.params.followText "set-order"=true then pickOrder (w.params.setOrder S ep) es else es
theorem zEd (w:World) (S:Addr) (ep:Nat) (es:Array (Int × Value)):(ordW w S ep es).toList.Perm es.toList:=by
 unfold ordW
 split
 ·exact zOu _ _
 ·exact .refl _
theorem zCz (w:World) (S:Addr) (ep:Nat) (es:Array (Int × Value)):(ordW w S ep es).size=es.size:=by simpa using(zEd w S ep es).length_eq
noncomputable def zFp (w:World) (t:SetTable) (i:Nat):Nat:=if w.params.followText "set-order"=true then 0 else TB.slotAt t.place i
section
variable {prog:Program}{w:World}{A:Around}{E:Value->Shared->Prop}{s:Shared}
noncomputable def IsSI (w:World) (h:Heap) (I S:Addr) (i n ep:Nat) (t:SetTable):Prop:=∃o,h.get? I=some o/\o.cls=.type "set_iterator"/\o.data=.fields #[.int (zFp w t i) 0,.int i 0,.ref S,.int n 0,.int ep 0]
theorem IsSI.typeIs {I S:Addr}{i n ep:Nat}{t:SetTable}(x:IsSI w s.heap I S i n ep t):s.TypeIs (.ref I) "set_iterator":=let ⟨o,ho,hc,_⟩:=x;⟨o,ho,hc⟩
theorem walk_of {S:Addr}{es:Array (Int × Value)}{ep:Nat}{t:SetTable}(ho:s.heap.get? S=some (sObj es ep t)) (T:Tab t es.size (!(w.params.followText "set-order"))) (i:Nat) (hi:i<=es.size) {Q:Option (Value × Nat)->Shared->Prop}
  (h:Q (((ordW w S ep es)[i]?).map fun e=>(e.2,zFp w t (i+1))) s):wpAny (model prog w) A (setNext S (zFp w t i) i ep) Q E s:=by
 unfold setNext
 refine xa (uv ho rfl (Tab.ft T) ?_)
 dsimp only
 unfold setsByText
 refine xa (xa (yt (xh ?_)))
 show wpAny _ _ (if(w.params.followText "set-order")=true then _ else _) _ _ _
 by_cases c:w.params.followText "set-order"=true
 ·rw[xf c]
  rw[xg (by simp)]
  refine xa ?_
  unfold setWalk
  refine xa (uv ho rfl (Tab.ft T) ?_)
  dsimp only
  unfold setsByText
  refine xa (xa (yt (xh ?_)))
  show wpAny _ _ (if(w.params.followText "set-order")=true then _ else _) _ _ _
  rw[xf c]
  refine xa (yt (xh (xh ?_)))
  unfold ordW zFp at h
  rw[xf c,xf c]at h
  unfold zFp
  rw[xf c]
  exact h
 ·rw[xg c]
  have hl:t.led=true:=by rw[T.led];simpa using c
  have e1:(!t.plain && decide (es.size > 1))=false:=by rw[T.plain];rfl
  show wpAny _ _ (if(!t.plain && decide (es.size > 1))=true then _ else _) _ _ _
  rw[e1]
  rw[xg (by decide)]
  show wpAny _ _ ((if(!t.led && !es.isEmpty)=true then _ else pure ()) >>= _) _ _ _
  rw[hl]
  rw[xg (by simp)]
  refine xa (xh ?_)
  unfold ordW zFp at h
  rw[xg c,xg c]at h
  unfold zFp
  rw[xg c,zJy T.up (by rw[T.size];exact hi)]
  refine xh ?_
  rcases vC i es.size with z|z
  ·have z2:i<t.place.size:=by rw[T.size];exact z
   rw[vx z,vx z2]
   rw[vx z]at h
   have:TB.slotAt t.place (i+1)=t.place[i]+1:=by unfold TB.slotAt;simp[Array.getD,z2]
   rw[this]at h
   exact h
  ·rw[Array.getElem?_eq_none z]
   rw[Array.getElem?_eq_none z]at h
   exact h
theorem zUt {I S:Addr}{i ep:Nat}{es:Array (Int × Value)}{t:SetTable}{e:Int × Value}{Q:Option Value->Shared->Prop}(hit:IsSI w s.heap I S i es.size ep t) (ho:s.heap.get? S=some (sObj es ep t)) (T:Tab t es.size (!(w.params.followText "set-order"))) (hne:S≠I)
  (hx:(ordW w S ep es)[i]?=some e) (hQ:∀h',IsSI w h' I S (i+1) es.size ep t->Heap.SameBut I s.heap h'->Q (some e.2) { s with heap:=h' }):wpAny (model prog w) A (pyNext (.ref I)) Q E s:=by
 have hlt:i<es.size:=by rw[<- zCz w S ep es];exact(vZ.mp hx).1
 obtain⟨o,hi,hc,hd⟩:=id hit
 unfold pyNext
 refine xa (u6 (vR (name:=Str.ofString "__next__") hit.typeIs si_next (vh si_next hit.typeIs zLe ?_ (zOb _))))
 unfold Builtin.«set_iterator.__next__»
 refine xa (xh ?_)
 refine xa (wpAny_fieldsOf hi hd ?_)
 dsimp only
 refine xa (wpAny_setEntries_of ho rfl (Tab.ft T) ?_)
 rw[xg (by simp)]
 simp only[Int.toNat_natCast]
 refine xa (walk_of ho T i (vM hlt) ?_)
 rw[hx]
 simp only[vL]
 refine xa (wpAny_setField hi hd (by simp) ?_)
 have g1:=u4 (Obj.mapFields fun x=>x.setIfInBounds 0 (rawInt ↑(zFp w t (i+1)))) hi (Obj.isFreed_of_fields (u7 hd _))
 have d1:=u7 hd fun x=>x.setIfInBounds 0 (rawInt ↑(zFp w t (i+1)))
 refine xa (wpAny_setField g1 d1 (by simp) (xh ⟨e.2,rfl,xh (hQ _ ⟨_,u4 _ g1 (Obj.isFreed_of_fields (u7 d1 _)),(Obj.cls_mapFields ..).trans ((Obj.cls_mapFields ..).trans hc),?_⟩ ((uK ..).trans (uK ..)))⟩))
 rw[u7 d1]
 simp[rawInt]
theorem zUu {I S:Addr}{ep:Nat}{es:Array (Int × Value)}{t:SetTable}{Q:Option Value->Shared->Prop}(hh:A.handled=none) (hit:IsSI w s.heap I S es.size es.size ep t) (ho:s.heap.get? S=some (sObj es ep t)) (T:Tab t es.size (!(w.params.followText "set-order"))) (hne:S≠I)
  (hQ:∀h',Heap.ExtBut I s.heap h'->Q none { s with heap:=h' }):wpAny (model prog w) A (pyNext (.ref I)) Q E s:=by
 obtain⟨o,hi,hc,hd⟩:=id hit
 unfold pyNext
 refine xa (u6 (vR (name:=Str.ofString "__next__") hit.typeIs si_next (vh si_next hit.typeIs zLe ?_ (zOb _))))
 unfold Builtin.«set_iterator.__next__»
 refine xa (xh ?_)
 refine xa (wpAny_fieldsOf hi hd ?_)
 dsimp only
 refine xa (wpAny_setEntries_of ho rfl (Tab.ft T) ?_)
 rw[xg (by simp)]
 simp only[Int.toNat_natCast]
 refine xa (walk_of ho T es.size (xi _) ?_)
 rw[Array.getElem?_eq_none (by rw[zCz];exact xi _)]
 simp only[Option.map_none]
 refine xa (wpAny_setField hi hd (by simp) ?_)
 refine xa ?_
 simp only[newExc,newTuple]
 refine xa (vk (xa (m:=firstArgMember _ _) (wpAny_of_eq (a:=Value.none) (by first|rfl|(simp only[firstArgMember];rfl)) (vk ?_ (by size_fits)))) (by size_fits))
 simp only[raiseNew]
 refine xa (wpAny_handled ?_);rw[show A.in1.handled=none from hh]
 refine xa (xh (wpAny_throw ?_))
 refine xa (uj (b:=true) (T:="StopIteration") ⟨_,xA _ rfl,rfl⟩ isSubtype_stop (xh (hQ _ (((uK ..).extBut.push _).push _))))
theorem zNr (hh:A.handled=none) (I S:Addr) (hne:S≠I) (es:Array (Int × Value)) (ep:Nat) (t:SetTable) (T:Tab t es.size (!(w.params.followText "set-order"))):
  Walks prog w A I [I,S] [I] es.size (fun i v=>((ordW w S ep es).map (·.2))[i]?=some v) (fun i h=>IsSI w h I S i es.size ep t/\h.get? S=some (sObj es ep t)) where
 sub:=fun b hb=>by simp at hb;simp[hb]
 frame:=fun _ _ _ st hk=>⟨let ⟨o,ho,r⟩:=st.1;⟨o,hk I (by simp) o ho,r⟩,hk S (by simp) _ st.2⟩
 item:=fun i s Q E hi st hQ=>by
  have hz:i<(ordW w S ep es).size:=by rw[zCz];exact hi
  refine zUt st.1 st.2 T hne (vx hz) fun h' it' sb=>?_
  exact hQ _ h' s.toks (by rw[Array.getElem?_map,vx hz];rfl) ⟨it',(sb.2 S hne).trans st.2⟩ fun b o hb e=>(sb.2 b fun z=>hb (by simp[z])).trans e
 done:=fun s Q E st hQ=>zUu hh st.1 st.2 T hne fun h' he'=>hQ h' s.toks fun b o hb e=>he' b o (fun h=>hb (by simp[h])) e
 self:=fun i s Q E st hQ=>wpAny_pyIter_slot st.1.typeIs zO9 (vh zO9 st.1.typeIs zOa (show wpAny _ _ (ret (.ref I)) _ _ s from xh ⟨_,rfl,"set_iterator",_,st.1.typeIs,si_next.lookup,hQ⟩) (zRg _))
theorem zSr {S:Addr}{es:Array (Int × Value)}{ep:Nat}{t:SetTable}{Q:Value->Shared->Prop}(ho:s.heap.get? S=some (sObj es ep t)) (T:Tab t es.size (!(w.params.followText "set-order")))
  (h:Q (.ref s.heap.objs.size) { s with heap:=s.heap.push { cls:=.type "set_iterator",data:=.fields #[.int 0 0,.int 0 0,.ref S,.int es.size 0,.int ep 0] } }):wpAny (model prog w) A (pyIter (.ref S)) Q E s:=by
 have hT:s.TypeIs (.ref S) "set":=⟨_,ho,rfl⟩
 refine wpAny_pyIter_slot hT F.slot_set_iter (vh F.slot_set_iter hT yAg ?_ (F.args_set_iter_1 _))
 unfold Builtin.«frozenset.__iter__»
 refine xa (m:=Builtin.Frozenset.slot0 _ _) (xh ?_)
 unfold Builtin.Frozenset.sizeOf
 refine xa (xa (wpAny_setEntries_of ho rfl (Tab.ft T) (xh ?_)))
 unfold setDrawn
 refine xa (xa (uv ho rfl (Tab.ft T) ?_))
 dsimp only
 unfold setsByText
 refine xa (xa (yt (xh (xh ?_))))
 show wpAny _ _ (if(!(w.params.followText "set-order") && (!t.plain && decide (es.size > 1)))=true then _ else _) _ _ _
 rw[xg (by rw[T.plain];simp)]
 refine xa (xh ?_)
 refine xa (wpAny_setEpoch_of ho rfl (Tab.ft T) ?_)
 unfold newFields
 refine xa (vk (xh ⟨_,rfl,"set_iterator",_,⟨_,xA _ rfl,rfl⟩,si_next.lookup,?_⟩))
 simpa[rawInt]using h
theorem zSu {S:Addr}{Q:Bool->Shared->Prop}(hT:s.TypeIs (.ref S) "set") (h:Q false s):wpAny (model prog w) A (Builtin.List.listLengthHint (.ref S)) Q E s:=by
 unfold Builtin.List.listLengthHint
 refine xa (ui hT F.slot_set_len.lookup ?_)
 generalize hid:("set.__len__":String)=id0;wp_delta;rw[show splitId id0=some ("set","__len__")from by subst hid;decide +kernel];subst hid
 refine xa (uj (T:="set") (b:=true) hT sub_set_self (wpAny_ite_split (fun hab=>absurd hab (by decide)) fun _=>wpAny_ite_split (fun _=>xa (vY hT (xh h))) fun hab=>absurd (by decide +kernel) hab))
open PySem.W in
theorem zK9 {S:Addr}{es:Array (Int × Value)}{ep:Nat}{t:SetTable}(T:Tab t es.size (!(w.params.followText "set-order"))):
  KdlSrc prog w "set" S S es.size (fun i v=>((ordW w S ep es).map (·.2))[i]?=some v) (fun h=>h.get? S=some (sObj es ep t)) where
 type:=fun s ok=>⟨_,ok,rfl⟩
 there:=fun h ok=>⟨xo ok,xo ok⟩
 keep:=fun h h' ok k=>k S (.inl rfl) _ ok
 notList:=by decide
 notTuple:=by decide
 hint:=fun A E s Q ok h=>zSu ⟨_,ok,rfl⟩ h
 iter:=fun A s hh ok=>⟨{ cls:=.type "set_iterator",data:=.fields #[.int 0 0,.int 0 0,.ref S,.int es.size 0,.int ep 0] },_,fun E Q h=>zSr ok T h,
  zNr hh _ S (xr (xo ok)) es ep t T,⟨_,xA _ rfl,rfl,by
   have:zFp w t 0=0:=by unfold zFp;split <;> rfl
   rw[this];rfl⟩,xn _ ok⟩
end
end TS
namespace TS
open PySem
noncomputable def KIt (b:Bool) (h:Heap) (i a:Addr) (k:Nat):Prop:=∃o,h.get? i=some o/\o.cls=.type (if b then "tuple_iterator" else "list_iterator")/\o.data=.fields #[.ref a,.int k 0]
noncomputable def KSq (b:Bool) (h:Heap) (a:Addr) (xs:Array Value):Prop:=∃o,h.get? a=some o/\o.cls=.type (if b then "tuple" else "list")/\∃n,o.data=.seq xs n
theorem KIt.at {b:Bool}{h h':Heap}{i a:Addr}{k:Nat}(x:KIt b h i a k) (e:∀o,h.get? i=some o->h'.get? i=some o):KIt b h' i a k:=let ⟨o,ho,r⟩:=x;⟨o,e _ ho,r⟩
theorem KSq.at {b:Bool}{h h':Heap}{a:Addr}{xs:Array Value}(x:KSq b h a xs) (e:∀o,h.get? a=some o->h'.get? a=some o):KSq b h' a xs:=let ⟨o,ho,r⟩:=x;⟨o,e _ ho,r⟩
theorem KIt.xb {b:Bool}{h h':Heap}{i a c:Addr}{k:Nat}(x:KIt b h i a k) (e:Heap.ExtBut c h h') (n:i≠c):KIt b h' i a k:=x.at fun o q=>e _ _ n q
theorem KSq.xb {b:Bool}{h h':Heap}{a c:Addr}{xs:Array Value}(x:KSq b h a xs) (e:Heap.ExtBut c h h') (n:a≠c):KSq b h' a xs:=x.at fun o q=>e _ _ n q
section
variable {prog:Program}{w:World}{A:Around}{E:Value->Shared->Prop}{s:Shared}
theorem next_item {b:Bool}{it l:Addr}{i:Nat}{items:Array Value}{x:Value}{Q:Value->Shared->Prop}(hit:KIt b s.heap it l i) (hl:KSq b s.heap l items) (hx:items[i]?=some x)
  (hQ:∀h',KIt b h' it l (i+1)->Heap.SameBut it s.heap h'->Q x { s with heap:=h' }):wpAny (model prog w) A (Builtin.SmallTypes.nextOf (.ref it)) Q E s:=by
 cases b with
 | false=>exact wpAny_nextOf_list_item hit hl hx hQ
 | true=>
  obtain⟨o,ho,hc,hd⟩:=id hit
  obtain⟨ol,hol,_,nl,hdl⟩:=hl
  have hT:s.TypeIs (.ref it) "tuple_iterator":=⟨o,ho,hc⟩
  unfold Builtin.SmallTypes.nextOf
  refine xa (vR (name:=Str.ofString "__next__") hT yI (vh yI hT F.entry_tuple_iterator_next ?_ (F.args_tuple_iterator_next_1 _)))
  refine(show wpAny _ _ (field (.ref it) 0 >>= _) _ _ s from xa (xS ho hd (x:=.ref l) rfl (show wpAny _ _ (if(Value.ref l == Value.none)=true then _ else _) _ _ s from ?_)))
  rw[xg (show ¬ ((Value.ref l == Value.none)=true)from yg)]
  refine(show wpAny _ _ (field (.ref it) 1 >>= _) _ _ s from xa (xS ho hd (x:=.int i 0) rfl (show wpAny _ _ (seqItems? (.ref l) >>= _) _ _ s from xa (vD hol hdl ?_))))
  simp only[Int.toNat_natCast,hx]
  refine xa (wpAny_setField ho hd (by simp) (xh ⟨x,rfl,xh (hQ _ ⟨_,u4 _ ho (Obj.isFreed_of_fields (u7 hd _)),(Obj.cls_mapFields ..).trans hc,?_⟩ (uK ..))⟩))
  rw[u7 hd];simp[rawInt]
theorem next_end {b:Bool}{it l:Addr}{i:Nat}{items:Array Value}{Q:Value->Shared->Prop}(hh:A.handled=none) (hit:KIt b s.heap it l i) (hl:KSq b s.heap l items) (hx:items[i]?=none)
  (hE:∀h' e,Heap.ExtBut it s.heap h'->(∃o,h'.get? e=some o/\o.cls=.type "StopIteration")->E (.ref e) { s with heap:=h' }):wpAny (model prog w) A (Builtin.SmallTypes.nextOf (.ref it)) Q E s:=by
 cases b with
 | false=>exact wpAny_nextOf_list_end hh hit hl hx hE
 | true=>
  obtain⟨o,ho,hc,hd⟩:=id hit
  obtain⟨ol,hol,_,nl,hdl⟩:=hl
  have hT:s.TypeIs (.ref it) "tuple_iterator":=⟨o,ho,hc⟩
  unfold Builtin.SmallTypes.nextOf
  refine xa (vR (name:=Str.ofString "__next__") hT yI (vh yI hT F.entry_tuple_iterator_next ?_ (F.args_tuple_iterator_next_1 _)))
  refine(show wpAny _ _ (field (.ref it) 0 >>= _) _ _ s from xa (xS ho hd (x:=.ref l) rfl (show wpAny _ _ (if(Value.ref l == Value.none)=true then _ else _) _ _ s from ?_)))
  rw[xg (show ¬ ((Value.ref l == Value.none)=true)from yg)]
  refine(show wpAny _ _ (field (.ref it) 1 >>= _) _ _ s from xa (xS ho hd (x:=.int i 0) rfl (show wpAny _ _ (seqItems? (.ref l) >>= _) _ _ s from xa (vD hol hdl ?_))))
  simp only[Int.toNat_natCast,hx]
  refine xa (vG (xa (wpAny_setField ho hd (by simp) (show wpAny _ _ (newExc (.type "StopIteration") [] >>= _) _ _ _ from xa ?_))))
  simp only[newExc,newTuple]
  refine xa (vk (xa (m:=firstArgMember _ _) (wpAny_of_eq (a:=Value.none) (by first|rfl|(simp only[firstArgMember];rfl)) (vk ?_ (by size_fits)))) (by size_fits))
  simp only[raiseNew]
  refine xa (wpAny_handled ?_);rw[show A.in1.handled=none from hh]
  refine xa (xh (wpAny_throw ?_))
  exact hE _ _ (((uK ..).extBut.push _).push _) ⟨_,xA _ rfl,rfl⟩
theorem zUf {b1 b2:Bool}{z TI TO i1 i2 l1 l2:Addr}{k1 k2:Nat}{xs ys:Array Value}{x y a b:Value}{Q:Option Value->Shared->Prop}(D:ZipApart z TI TO i1 i2 l1 l2)
  (hz:IsZip s.heap z TI TO .none) (hTI:IsPair s.heap TI (.ref i1) (.ref i2)) (hTO:IsPair s.heap TO a b) (h1:KIt b1 s.heap i1 l1 k1) (h2:KIt b2 s.heap i2 l2 k2) (q1:KSq b1 s.heap l1 xs) (q2:KSq b2 s.heap l2 ys) (hx:xs[k1]?=some x) (hy:ys[k2]?=some y)
  (hQ:∀h',IsZip h' z TI TO (rawInt s.heap.objs.size)->IsPair h' TO x y->KIt b1 h' i1 l1 (k1+1)->KIt b2 h' i2 l2 (k2+1)->IsPair h' s.heap.objs.size x y->(∀c o,c≠z->c≠TO->c≠i1->c≠i2->s.heap.get? c=some o->h'.get? c=some o)->Q (some (.ref s.heap.objs.size)) { s with heap:=h' }):
  wpAny (model prog w) A (pyNext (.ref z)) Q E s:=by
 have hT:s.TypeIs (.ref z) "zip":=⟨_,hz,rfl⟩
 unfold pyNext
 refine xa (u6 (vR (name:=Str.ofString "__next__") hT F.slot_zip_next (vh F.slot_zip_next hT F.entry_zip_next ?_ (F.args_zip_next_1 _))))
 refine(show wpAny _ _ (field (.ref z) 2 >>= _) _ _ _ from xa (xS hz rfl (x:=.bool false) rfl (show wpAny _ _ (field (.ref z) 3 >>= _) _ _ _ from xa (xS hz rfl (x:=.ref TI) rfl (xa (vD hTI rfl (show wpAny _ _ (Builtin.SmallTypes.ownedTupleIsFree (.ref z) >>= _) _ _ _ from xa ?_)))))))
 unfold Builtin.SmallTypes.ownedTupleIsFree;refine xa (xS hz rfl (x:=.none) rfl (xh ?_));simp only[xj]
 refine xa (vG (xa (xS hz rfl (x:=.ref TO) rfl (xa (u9 hz (by simp) fun g1 z1 s1=>xa ?_)))))
 replace z1:IsZip g1 z TI TO .ellipsis:=z1
 simp only[List.zipIdx_cons,List.zipIdx_nil,yi,List.forIn_nil]
 refine xa (xa (wpAny_onRaise (show wpAny _ _ (Builtin.SmallTypes.nextOf (.ref i1) >>= _) _ _ _ from xa (next_item (h1.xb s1.extBut D.i1z) (q1.xb s1.extBut D.l1z) hx fun g2 h12 s2=>xh ?_))))
 have T2:IsPair g2 TO a b:=s2.extBut _ _ D.TOi1 (s1.extBut _ _ D.TOz hTO)
 refine xa (vD T2 rfl (xa (wpAny_updateSeq_pair T2 fun g3 T3 s3=>xa (wpAny_letGo (xh ?_)))))
 replace T3:IsPair g3 TO x b:=T3
 refine xa (xa (wpAny_onRaise (show wpAny _ _ (Builtin.SmallTypes.nextOf (.ref i2) >>= _) _ _ _ from xa (next_item (((h2.xb s1.extBut D.i2z).xb s2.extBut D.i12.symm).xb s3.extBut D.TOi2.symm) (((q2.xb s1.extBut D.l2z).xb s2.extBut D.l2i1).xb s3.extBut D.l2TO) hy fun g4 h24 s4=>xh ?_))))
 have T4:IsPair g4 TO x b:=s4.extBut _ _ D.TOi2 T3
 refine xa (vD T4 rfl (xa (wpAny_updateSeq_pair T4 fun g5 T5 s5=>xa (wpAny_letGo (xh (xh ?_))))))
 replace T5:IsPair g5 TO x y:=T5
 refine xa (vD T5 rfl (xa (wpAny_newTuple ?_)))
 have sz:g5.objs.size=s.heap.objs.size:=by rw[s5.1,s4.1,s3.1,s2.1,s1.1]
 have z5:IsZip g5 z TI TO .ellipsis:=s5.extBut _ _ D.TOz.symm (s4.extBut _ _ D.i2z.symm (s3.extBut _ _ D.TOz.symm (s2.extBut _ _ D.i1z.symm z1)))
 have k5:∀c o,c≠z->c≠TO->c≠i1->c≠i2->s.heap.get? c=some o->g5.get? c=some o:=fun c o c1 c2 c3 c4 e=>s5.extBut _ _ c2 (s4.extBut _ _ c4 (s3.extBut _ _ c2 (s2.extBut _ _ c3 (s1.extBut _ _ c1 e))))
 have a5:KIt b1 g5 i1 l1 (k1+1):=((h12.xb s3.extBut D.TOi1.symm).xb s4.extBut D.i12).xb s5.extBut D.TOi1.symm
 have b5:KIt b2 g5 i2 l2 (k2+1):=h24.xb s5.extBut D.TOi2.symm
 have zlt:z<g5.objs.size:=xo z5
 refine(show wpAny _ _ (Builtin.SmallTypes.ownedTupleHandOut (.ref z) (.ref g5.objs.size) >>= _) _ _ _ from xa ?_)
 unfold Builtin.SmallTypes.ownedTupleHandOut
 have z6:IsZip (g5.push { cls:=.type "tuple",data:=.seq #[x,y] }) z TI TO .ellipsis:=xn _ z5
 refine xa (u9 z6 (by simp) fun g7 z7 s7=>?_)
 replace z7:IsZip g7 z TI TO (rawInt g5.objs.size):=z7
 refine u9 z7 (by simp) fun g8 z8 s8=>?_
 replace z8:IsZip g8 z TI TO (rawInt g5.objs.size):=z8
 have up:∀c o,c≠z->g5.get? c=some o->g8.get? c=some o:=fun c o c1 e=>s8.extBut _ _ c1 (s7.extBut _ _ c1 (xn _ e))
 have T8:IsPair g8 g5.objs.size x y:=s8.extBut _ _ (uf zlt) (s7.extBut _ _ (uf zlt) (xA _ rfl))
 rw[sz]at z8 T8
 refine xh ⟨_,rfl,?_⟩
 show wpAny _ _ (pure (some (Value.ref g5.objs.size))) _ _ _
 rw[sz]
 exact xh (hQ g8 z8 (up _ _ D.TOz T5) (a5.at fun o e=>up _ o D.i1z e) (b5.at fun o e=>up _ o D.i2z e) T8 fun c o c1 c2 c3 c4 e=>up c o c1 (k5 c o c1 c2 c3 c4 e))
theorem zXi {b1 b2:Bool}{z TI TO i1 i2 l1 l2:Addr}{k1 k2:Nat}{xs ys:Array Value}{a b:Value}{Q:Option Value->Shared->Prop}(hh:A.handled=none) (D:ZipApart z TI TO i1 i2 l1 l2)
  (hz:IsZip s.heap z TI TO .none) (hTI:IsPair s.heap TI (.ref i1) (.ref i2)) (hTO:IsPair s.heap TO a b) (h1:KIt b1 s.heap i1 l1 k1) (h2:KIt b2 s.heap i2 l2 k2) (q1:KSq b1 s.heap l1 xs) (q2:KSq b2 s.heap l2 ys) (hend:xs[k1]?=none\/ys[k2]?=none)
  (hQ:∀h',(∀c o,c≠z->c≠TO->c≠i1->c≠i2->s.heap.get? c=some o->h'.get? c=some o)->Q none { s with heap:=h' }):wpAny (model prog w) A (pyNext (.ref z)) Q E s:=by
 have hT:s.TypeIs (.ref z) "zip":=⟨_,hz,rfl⟩
 unfold pyNext
 have stop:∀(g:Heap) (e:Addr),(∀c o,c≠z->c≠TO->c≠i1->c≠i2->s.heap.get? c=some o->g.get? c=some o)->(∃o,g.get? e=some o/\o.cls=.type "StopIteration")->wpAny (model prog w) A (do
   let b <- isInstance (.ref e) (.type "StopIteration")
   if b=true then pure none else throw (.ref e)) Q E { s with heap:=g }:=fun g e kp hz0=>by obtain⟨o,ho,hc⟩:=hz0;exact xa (uj (b:=true) (T:="StopIteration") ⟨o,ho,hc⟩ isSubtype_stop (xh (hQ _ kp)))
 refine xa (u6 (vR (name:=Str.ofString "__next__") hT F.slot_zip_next (vh F.slot_zip_next hT F.entry_zip_next ?_ (F.args_zip_next_1 _))))
 refine(show wpAny _ _ (field (.ref z) 2 >>= _) _ _ _ from xa (xS hz rfl (x:=.bool false) rfl (show wpAny _ _ (field (.ref z) 3 >>= _) _ _ _ from xa (xS hz rfl (x:=.ref TI) rfl (xa (vD hTI rfl (show wpAny _ _ (Builtin.SmallTypes.ownedTupleIsFree (.ref z) >>= _) _ _ _ from xa ?_)))))))
 unfold Builtin.SmallTypes.ownedTupleIsFree;refine xa (xS hz rfl (x:=.none) rfl (xh ?_));simp only[xj]
 refine xa (vG (xa (xS hz rfl (x:=.ref TO) rfl (xa (u9 hz (by simp) fun g1 z1 s1=>xa ?_)))))
 replace z1:IsZip g1 z TI TO .ellipsis:=z1
 simp only[List.zipIdx_cons,List.zipIdx_nil,yi,List.forIn_nil]
 have hhi:A.in1.handled=none:=hh
 refine xa (xa (wpAny_onRaise (show wpAny _ _ (Builtin.SmallTypes.nextOf (.ref i1) >>= _) _ _ _ from xa ?_)))
 cases hx:xs[k1]? with
 | none=>
  refine next_end hhi (h1.xb s1.extBut D.i1z) (q1.xb s1.extBut D.l1z) hx fun g2 e s2 he=>?_
  obtain⟨oe,hoe,hce⟩:=he
  have z2:IsZip g2 z TI TO .ellipsis:=s2 _ _ D.i1z.symm z1
  have ne:e≠z:=fun x=>by subst x;rw[z2]at hoe;cases hoe;simp at hce
  exact u9 z2 (by simp) fun g3 _ s3=>stop g3 e (fun c o c1 _ c3 _ x=>s3.extBut _ _ c1 (s2 _ _ c3 (s1.extBut _ _ c1 x))) ⟨oe,s3.extBut _ _ ne hoe,hce⟩
 | some x=>
  have hy:ys[k2]?=none:=by rcases hend with h|h;rw[hx]at h;cases h;exact h
  refine next_item (h1.xb s1.extBut D.i1z) (q1.xb s1.extBut D.l1z) hx fun g2 h12 s2=>xh ?_
  have T2:IsPair g2 TO a b:=s2.extBut _ _ D.TOi1 (s1.extBut _ _ D.TOz hTO)
  refine xa (vD T2 rfl (xa (wpAny_updateSeq_pair T2 fun g3 T3 s3=>xa (wpAny_letGo (xh ?_)))))
  refine xa (xa (wpAny_onRaise (show wpAny _ _ (Builtin.SmallTypes.nextOf (.ref i2) >>= _) _ _ _ from xa (next_end hhi (((h2.xb s1.extBut D.i2z).xb s2.extBut D.i12.symm).xb s3.extBut D.TOi2.symm) (((q2.xb s1.extBut D.l2z).xb s2.extBut D.l2i1).xb s3.extBut D.l2TO) hy fun g4 e s4 he=>?_))))
  obtain⟨oe,hoe,hce⟩:=he
  have z4:IsZip g4 z TI TO .ellipsis:=s4 _ _ D.i2z.symm (s3.extBut _ _ D.TOz.symm (s2.extBut _ _ D.i1z.symm z1))
  have ne:e≠z:=fun x=>by subst x;rw[z4]at hoe;cases hoe;simp at hce
  exact u9 z4 (by simp) fun g5 _ s5=>stop g5 e (fun c o c1 c2 c3 c4 x=>s5.extBut _ _ c1 (s4 _ _ c4 (s3.extBut _ _ c2 (s2.extBut _ _ c3 (s1.extBut _ _ c1 x))))) ⟨oe,s5.extBut _ _ ne hoe,hce⟩
end
end TS
namespace TS
open PySem
noncomputable abbrev itO (b:Bool) (l:Addr):Obj:={ cls:=.type (if b then "tuple_iterator" else "list_iterator"),data:=.fields #[.ref l,.int 0 0] }
section
variable {prog:Program}{w:World}{A:Around}{E:Value->Shared->Prop}{s:Shared}
theorem zH7 {b:Bool}{l:Addr}{xs:Array Value}{Q:Value->Shared->Prop}(q:KSq b s.heap l xs) (h:Q (.ref s.heap.objs.size) { s with heap:=s.heap.push (itO b l) }):wpAny (model prog w) A (pyIter (.ref l)) Q E s:=by
 cases b with
 | false=>exact v9 q h
 | true=>exact wpAny_pyIter_tuple q h
end
noncomputable abbrev kz1 (b1 b2:Bool) (h:Heap) (l1 l2:Addr):Heap:=(h.push (itO b1 l1)).push (itO b2 l2)
noncomputable abbrev kz2 (b1 b2:Bool) (h:Heap) (l1 l2:Addr):Heap:=(kz1 b1 b2 h l1 l2).push { cls:=.type "tuple",data:=.seq #[.ref h.objs.size,.ref (h.push (itO b1 l1)).objs.size] }
noncomputable abbrev kz3 (b1 b2:Bool) (h:Heap) (l1 l2:Addr):Heap:=(kz2 b1 b2 h l1 l2).push { cls:=.type "tuple",data:=.seq #[.none,.none] }
noncomputable abbrev kz4 (b1 b2:Bool) (h:Heap) (l1 l2:Addr):Heap:=(kz3 b1 b2 h l1 l2).push { cls:=.type "zip",data:=.fields #[.none,.bool false,.bool false,.ref (kz1 b1 b2 h l1 l2).objs.size,.ref (kz2 b1 b2 h l1 l2).objs.size] }
theorem zZb (b1 b2:Bool) (l1 l2:Addr) (xs ys:Array Value):Meets (Builtin.«zip.__new__» ⟨[.type "zip",.ref l1,.ref l2],[]⟩) (fun _ R s=>KSq b1 s.heap l1 xs/\KSq b2 s.heap l2 ys/\R (.ok (.ret (.ref (kz3 b1 b2 s.heap l1 l2).objs.size))) { s with heap:=kz4 b1 b2 s.heap l1 l2 }):=
 .of_wp fun prog w A R s h=>by
  obtain⟨hp,g,d,tk,os⟩:=s;obtain⟨q1,q2,h⟩:=h
  have hsub:=sub_zip
  have L1:KSq b1 (Shared.heap ⟨hp,g,d,tk,os⟩) l1 xs:=q1
  have L2:KSq b2 (Shared.heap ⟨hp.push (itO b1 l1),g,d,tk,os⟩) l2 ys:=q2.at fun o e=>xn _ e
  wp_walk using zH7 L1,zH7 L2
  exact⟨_,rfl,h⟩
section
variable {prog:Program}{w:World}{A:Around}{E:Value->Shared->Prop}{s:Shared}
theorem zWd {b1 b2:Bool}{l1 l2:Addr}{xs ys:Array Value}{Q:Value->Shared->Prop}(q1:KSq b1 s.heap l1 xs) (q2:KSq b2 s.heap l2 ys)
  (h:∀h',IsZip h' (s.heap.objs.size+4) (s.heap.objs.size+2) (s.heap.objs.size+3) .none->IsPair h' (s.heap.objs.size+2) (.ref s.heap.objs.size) (.ref (s.heap.objs.size+1))->
   IsPair h' (s.heap.objs.size+3) .none .none->KIt b1 h' s.heap.objs.size l1 0->KIt b2 h' (s.heap.objs.size+1) l2 0->(∀c o,s.heap.get? c=some o->h'.get? c=some o)->Q (.ref (s.heap.objs.size+4)) { s with heap:=h' }):
  wpAny (model prog w) A (call (.type "zip") [.ref l1,.ref l2]) Q E s:=by
 refine callType_new F.called_zip (by decide) (F.typeCall_zip_2 _ _) (F.newCall_zip_2 _ _) (fun obj=>F.args_object_init_3 obj _ _) F.entry_zip_new (zZb b1 b2 l1 l2 xs ys) ⟨q1,q2,?_⟩
 have z0:(s.heap.push (itO b1 l1)).objs.size=s.heap.objs.size+1:=vw ..
 have z1:(kz1 b1 b2 s.heap l1 l2).objs.size=s.heap.objs.size+2:=by rw[vw,z0]
 have z2:(kz2 b1 b2 s.heap l1 l2).objs.size=s.heap.objs.size+3:=by rw[vw,z1]
 have z3:(kz3 b1 b2 s.heap l1 l2).objs.size=s.heap.objs.size+4:=by rw[vw,z2]
 have g5:(kz4 b1 b2 s.heap l1 l2).get? (kz3 b1 b2 s.heap l1 l2).objs.size=some _:=xA _ rfl
 have g4:(kz4 b1 b2 s.heap l1 l2).get? (kz2 b1 b2 s.heap l1 l2).objs.size=some _:=xn _ (xA _ rfl)
 have g3:(kz4 b1 b2 s.heap l1 l2).get? (kz1 b1 b2 s.heap l1 l2).objs.size=some _:=xn _ (xn _ (xA _ rfl))
 have g2:(kz4 b1 b2 s.heap l1 l2).get? (s.heap.push (itO b1 l1)).objs.size=some (itO b2 l2):=xn _ (xn _ (xn _ (xA _ (by cases b2 <;> rfl))))
 have g1:(kz4 b1 b2 s.heap l1 l2).get? s.heap.objs.size=some (itO b1 l1):=xn _ (xn _ (xn _ (xn _ (xA _ (by cases b1 <;> rfl)))))
 have gk:∀c o,s.heap.get? c=some o->(kz4 b1 b2 s.heap l1 l2).get? c=some o:=fun c o x=>xn _ (xn _ (xn _ (xn _ (xn _ x))))
 show _/\_
 rw[z3]at g5 ⊢
 rw[z1,z2]at g5
 rw[z1,z0]at g3
 rw[z2]at g4
 rw[z0]at g2
 exact⟨⟨_,g5,rfl⟩,h _ g5 g3 g4 ⟨_,g1,rfl,rfl⟩ ⟨_,g2,rfl,rfl⟩ gk⟩
end
end TS
namespace L2
open PySem PySem.Spec PyProof.Rows TS
noncomputable def hoK (b:Bool) (xs:List V):HO:=if b then .tup xs else .lst xs
noncomputable def Itk (b1 b2:Bool) (a b:Addr):It:=
  ⟨fun i H=>∃xs ys x y,H a=some (hoK b1 xs)/\H b=some (hoK b2 ys)/\xs[i]?=some x/\ys[i]?=some y,
   fun i H v H'=>∃T xs ys x y,v=.ref T/\H T=none/\H a=some (hoK b1 xs)/\H b=some (hoK b2 ys)/\xs[i]?=some x/\ys[i]?=some y/\H'=upd H T (.tup [x,y]),
   fun i H=>∃xs ys,H a=some (hoK b1 xs)/\H b=some (hoK b2 ys)/\(xs.length<=i\/ys.length<=i)⟩
theorem Inv.kSq {X:Cx}{pins:List (Addr × Obj)}{σ:St}{H:Hp}{s:Shared}{b:Bool}{a:Addr}{xs:List V}(I:Inv X pins σ H s) (h:H a=some (hoK b xs)):∃its:List Value,Vals xs its/\KSq b s.heap a its.toArray/\xs.length<=sizeLine:=by
 cases b with
 | false=>obtain⟨its,r,p,z⟩:=I.list (SqL.of h);exact⟨its,r,p.isList,z⟩
 | true=>obtain⟨its,r,p,z⟩:=I.tuple (SqT.of h);exact⟨its,r,p,z⟩
theorem zXp {P:Program}{w:World}{K:PySem.W.Frag}{es:List Expr}{k:Nat}{pos:Pos}(b1 b2:Bool) (a b z TI TO i1 i2:Addr) (D:ZipOwn z TI TO i1 i2):
  Turn P w K (.Tuple es k pos) (Itk b1 b2 a b) [z,TI,TO,i1,i2] z (fun i h=>IsZip h z TI TO .none/\IsPair h TI (.ref i1) (.ref i2)/\(∃p q,IsPair h TO p q)/\KIt b1 h i1 a i/\KIt b2 h i2 b i) where
 mem:=by simp
 obj:=fun i h st c hc=>by
  obtain⟨hz,hTI,⟨p,q,hTO⟩,⟨o1,e1,c1,d1⟩,⟨o2,e2,c2,d2⟩⟩:=st
  simp only[xm,vd,ve]at hc
  rcases hc with rfl|rfl|rfl|rfl|rfl
  ·exact⟨_,hz,fun v z=>by cases z⟩
  ·exact⟨_,hTI,fun v z=>by cases z⟩
  ·exact⟨_,hTO,fun v z=>by cases z⟩
  ·exact⟨_,e1,fun v z=>by rw[d1]at z;cases z⟩
  ·exact⟨_,e2,fun v z=>by rw[d2]at z;cases z⟩
 keep:=fun i h h' st kk=>by
  obtain⟨hz,hTI,⟨p,q,hTO⟩,h1,h2⟩:=st
  exact⟨kk z (by simp) _ hz,kk TI (by simp) _ hTI,⟨p,q,kk TO (by simp) _ hTO⟩,h1.at fun o e=>kk i1 (by simp) o e,h2.at fun o e=>kk i2 (by simp) o e⟩
 item:=by
  intro X hP hw hK hc i pins s σ H E I hf st hg
  subst hP hw hK
  obtain⟨xs,ys,x,y,ha,hb,hx,hy⟩:=hg
  obtain⟨hz,hTI,⟨p,q,hTO⟩,h1,h2⟩:=st
  obtain⟨its,rv,p1,z1⟩:=I.kSq ha
  obtain⟨jts,rw',p2,z2⟩:=I.kSq hb
  obtain⟨u,hu,ru⟩:=rv.get hx
  obtain⟨v,hv,rv'⟩:=rw'.get hy
  have na:a ∉ [z,TI,TO,i1,i2]:=fun m=>by rw[(hf a m).1]at ha;cases ha
  have nb:b ∉ [z,TI,TO,i1,i2]:=fun m=>by rw[(hf b m).1]at hb;cases hb
  have hfr:H s.heap.objs.size=none:=I.hok.fresh (xi _)
  have zlt:z<s.heap.objs.size:=xo hz
  refine zUf (D.apart na nb) hz hTI hTO h1 h2 p1 p2 (x:=u) (y:=v) (by simpa using hu) (by simpa using hv) fun h' a1 a2 a3 a4 a5 hk=>?_
  refine⟨_,rfl,wpAny_letOwnedTupleGo_zip (s:={ s with heap:=h' }) a1 fun h2' hz' hs'=>?_⟩
  have hT:IsPair h2' s.heap.objs.size u v:=hs'.extBut _ _ (uf zlt) a5
  refine⟨.ref s.heap.objs.size,upd H s.heap.objs.size (.tup [x,y]),I.turnedT (t':=s.toks) hf (fun c o hc e=>?_) (xi _) ⟨by show 2<=sizeLine;decide,[u,v],.cons ru (.cons rv' .nil),⟨_,hT,rfl,_,rfl⟩⟩,rfl,
   ⟨_,xs,ys,x,y,rfl,hfr,ha,hb,hx,hy,rfl⟩,⟨hz',hs'.extBut _ _ D.TIz (hk _ _ D.TIz D.TITO D.TIi1 D.TIi2 hTI),⟨_,_,hs'.extBut _ _ D.TOz a2⟩,a3.xb hs'.extBut D.i1z,a4.xb hs'.extBut D.i2z⟩,fun c hc=>?_⟩
  ·simp only[xm,vd,ve,not_or]at hc
   exact hs'.extBut _ _ hc.1 (hk _ _ hc.1 hc.2.2.1 hc.2.2.2.1 hc.2.2.2.2 e)
  ·have hn:=(hf c hc).1
   have ne:c≠s.heap.objs.size:=by
    obtain⟨o1,e1,_⟩:=h1
    obtain⟨o2,e2,_⟩:=h2
    simp only[xm,vd,ve]at hc
    rcases hc with rfl|rfl|rfl|rfl|rfl
    ·exact xr (xo hz)
    ·exact xr (xo hTI)
    ·exact xr (xo hTO)
    ·exact xr (xo e1)
    ·exact xr (xo e2)
   rw[zAq ne];exact hn
 done:=by
  intro X hP hw hK hc i pins s σ H E I hf st hg
  subst hP hw hK
  obtain⟨xs,ys,ha,hb,hx⟩:=hg
  obtain⟨hz,hTI,⟨p,q,hTO⟩,h1,h2⟩:=st
  obtain⟨its,rv,p1,z1⟩:=I.kSq ha
  obtain⟨jts,rw',p2,z2⟩:=I.kSq hb
  have na:a ∉ [z,TI,TO,i1,i2]:=fun m=>by rw[(hf a m).1]at ha;cases ha
  have nb:b ∉ [z,TI,TO,i1,i2]:=fun m=>by rw[(hf b m).1]at hb;cases hb
  have l1:=rv.length
  have l2:=rw'.length
  refine zXi (I.ok.hd hc) (D.apart na nb) hz hTI hTO h1 h2 p1 p2 ?_ fun h' hk=>⟨rfl,I.turnedL (t':=s.toks) hf fun c o hc e=>?_⟩
  ·rcases hx with hx|hx
   ·exact .inl (by simp;lia)
   ·exact .inr (by simp;lia)
  ·simp only[xm,vd,ve,not_or]at hc
   exact hk _ _ hc.1 hc.2.2.1 hc.2.2.2.1 hc.2.2.2.2 e
 self:=fun _ _ _ _ _ st h=>wpAny_pyIter_zip st.1 h
section
variable {X:Cx}{tg:Expr}
noncomputable def iZk (b1 b2:Bool) (ta:TA):TI:=fun σ H R=>ta σ H fun vs H1=>∃a b,vs=[.ref a,.ref b]/\(∃xs,H1 a=some (hoK b1 xs))/\(∃ys,H1 b=some (hoK b2 ys))/\R (Itk b1 b2 a b) H1
theorem yAq (b1 b2:Bool) {a b:Expr}{es:List Expr}{k:Nat}{tpos:Pos}{ta:TA}{p pos:Pos}(hg:Gl X "zip") (hm:X.mg "zip"=none) (ha:PA X [a,b] ta) (hs:starEach [a,b] X.env=[(false,eval a X.env),(false,eval b X.env)]:=by rfl) (hs2:starEach [b] X.env=[(false,eval b X.env)]:=by rfl):
  PI X (.Tuple es k tpos) (.Call (.Name "zip" p) [a,b] [] pos) (iZk b1 b2 ta):=by
 intro pins s σ H R I h
 refine Call_ (zE3 I hg hm PyProof.Rows.boot_zip (uD (thn (ha pos pins s σ H _ I h) fun us s1 ⟨vs,H1,I1,r1,q1⟩=>?_) (by rw[hs,hs2]) (by rw[hs2];rfl)))
 obtain⟨l1,l2,e,⟨xs,ha1⟩,⟨ys,hb1⟩,q⟩:=q1
 subst e
 obtain⟨u1,u2,rfl,rfl,rfl⟩:=vals2 r1
 obtain⟨its,rv,p1,z1⟩:=I1.kSq ha1
 obtain⟨jts,rw',p2,z2⟩:=I1.kSq hb1
 refine zWd p1 p2 fun h' c1 c2 c3 c4 c5 hk=>?_
 refine wpAny_pyIter_zip c1 ?_
 have DZ:∀n:Nat,ZipOwn (n+4) (n+2) (n+3) n (n+1):=fun n=>by constructor <;> exact fun e=>absurd (show(_:Nat)=_ from e) (by nofun)
 refine⟨_,[s1.heap.objs.size+4,s1.heap.objs.size+2,s1.heap.objs.size+3,s1.heap.objs.size,s1.heap.objs.size+1],_,_,H1,rfl,I1.kept (t':=s1.toks) hk,zXp b1 b2 l1 l2 _ _ _ _ _ (DZ _),⟨c1,c2,⟨_,_,c3⟩,c4,c5⟩,fun c hc=>?_,q⟩
 have hle:s1.heap.objs.size<=c:=by
  simp only[xm,vd,ve]at hc
  rcases hc with rfl|rfl|rfl|rfl|rfl
  ·exact ub _ _
  ·exact ub _ _
  ·exact ub _ _
  ·exact xi _
  ·exact ub _ _
 exact I1.fpOk hle (I1.hok.fresh hle)
end
section
variable {X:Cx}{a b:Expr}{p pos:Pos}
theorem qzk (b1 b2:Bool) {es:List Expr}{k:Nat}{tpos:Pos}{ta:TA}(hg:Gl X "zip") (hm:X.mg "zip"=none) (ha:SA X [a,b] ta) (hs:starEach [a,b] X.env=[(false,eval a X.env),(false,eval b X.env)]:=by rfl) (hs2:starEach [b] X.env=[(false,eval b X.env)]:=by rfl):
  SI X (.Tuple es k tpos) (.Call (.Name "zip" p) [a,b] [] pos) (iZk b1 b2 ta):=⟨yAq b1 b2 hg hm ha.h hs hs2⟩
end
section
variable {A:TA}{σ σc:St}{H:Hp}{g:TG}{tt:TT}{te:TE}{Qd:List V->Hp->Prop}
theorem zKq {b:Bool}{xs ys:List V}(h:hoK b xs=hoK b ys):xs=ys:=by
 cases b with
 | false=>exact HO.lst.inj h
 | true=>exact HO.tup.inj h
end
end L2
namespace L2
open PySem PySem.Spec PyProof.Rows TS
section
variable {X:Cx}{K:PySem.W.Frag}
noncomputable def rLeS:R2:=fun x y H Q=>∃i j,x=.str i/\y=.str j/\Q (.bl (!decide (j.cps.toList<i.cps.toList))) H
theorem zP4:OpR X (compareOp .LtE) rLeS:=by
 intro pins s σ H x y v u Q I rx ry h
 obtain⟨i,j,rfl,rfl,q⟩:=h
 obtain⟨t,rfl⟩:=rx
 obtain⟨t',rfl⟩:=ry
 exact P.le_str ⟨.bl _,H,I,rfl,q⟩
noncomputable def Its (x:Str):It:=⟨fun i _=>i<x.cps.size,fun i H v H'=>H'=H/\∃c,x.cps[i]?=some c/\v=.str ⟨#[c]⟩,fun i _=>x.cps.size<=i⟩
theorem zRa {P:Program}{w:World}{tg:Expr}(it:Addr) (x:Str) (t:Tok):Turn P w K tg (Its x) [it] it (fun i h=>i<=x.cps.size/\h.IsStrIter it "str_ascii_iterator" x t i) where
 mem:=by simp
 obj:=fun i h st b hb=>by
  have e:b=it:=by simpa using hb
  subst e
  obtain⟨_,o,e,c,d⟩:=st
  exact⟨o,e,fun v z=>by rw[d]at z;cases z⟩
 keep:=fun i h h' st k=>⟨st.1,let ⟨o,ho,r⟩:=st.2;⟨o,k it (by simp) o ho,r⟩⟩
 item:=by
  intro X hP hw hK hc i pins s σ H E I hf st hg
  subst hP hw hK
  obtain⟨f0,f1,f2,f3,f4,f5⟩:=hf it (by simp)
  have hg:i<x.cps.size:=hg
  refine wpAny_pyNext_ascii_item st.2 (c:=x.cps[i]) (by simp[hg]) fun h' st' sb=>?_
  have I1:Inv X pins σ H { s with heap:=h',toks:=s.toks+1 }:=I.turned (t':=s.toks+1) (fun b o hb e=>(sb.2 b hb).trans e) f0 f1 f3 f4 f5
  obtain⟨o,e,c,d⟩:=id st'
  exact⟨_,rfl,zSw (s:={ s with heap:=h',toks:=s.toks+1 }) e c d (by decide) ⟨.str ⟨#[x.cps[i]]⟩,H,I1,⟨_,rfl⟩,⟨rfl,_,by simp[hg],rfl⟩,⟨hg,st'⟩,fun b hb=>(hf b hb).1⟩⟩
 done:=by
  intro X hP hw hK hc i pins s σ H E I hf st hg
  subst hP hw hK
  obtain⟨f0,f1,f2,f3,f4,f5⟩:=hf it (by simp)
  have hg:x.cps.size<=i:=hg
  exact wpAny_pyNext_ascii_end (I.ok.hd hc) st.2 (by simp[hg]) fun h' eb=>⟨rfl,I.turned (t':=s.toks) (fun b o hb e=>eb b o hb e) f0 f1 f3 f4 f5⟩
 self:=fun _ _ _ _ _ st h=>wpAny_pyIter_striter_ascii st.2 h
end
end L2
namespace L2
open PySem PySem.Spec PyProof.Rows TS
section
variable {X:Cx}{K:PySem.W.Frag}
theorem zLm {x:Str}{v:V}{u:Value}{pos:Pos}(hg:Gl X x) (hm:X.mg x=some u) (r:RelV v u) (hd:(x == ("__debug__":Str))=false:=by decide):SE X (.Name x pos) (tC v):=⟨zVo hg hm r hd⟩
variable {σ:St}{H:Hp}{Q:VK}
end
end L2
namespace DS
open PySem (Str)
inductive D where
 | non|bl (b:Bool)|int (i:Int)|str (x:Str)|ty (n:String)
 | tup (l:List D)|ktup (l:List D)|lst (l:List D)|klst (l:List D)|dct (t:Bool) (ks vs:List D)|st (l:List D)
 | ref (n:Nat)
noncomputable abbrev Store:=List D
noncomputable abbrev Env:=List (Option D)
structure Exn where
 cls:Str
 fs:List (Str × D)
inductive Rs (α:Type) where
 | ok (a:α) (S:Store)|ex (x:Exn) (S:Store)|bad
inductive SR where
 | nx (e:Env) (S:Store)|rt (d:D) (S:Store)|bk (e:Env) (S:Store)|ct (e:Env) (S:Store)|ex (x:Exn) (S:Store)|bad
noncomputable def Rs.bind {α β:Type}(r:Rs α) (k:α->Store->Rs β):Rs β:=match r with
 | .ok a S=>k a S
 | .ex x S=>.ex x S
 | .bad=>.bad
@[simp] theorem Rs.bind_ok {α β:Type}{a:α}{S:Store}{k:α->Store->Rs β}:(Rs.ok a S).bind k=k a S:=rfl
@[simp] theorem Rs.bind_ex {α β:Type}{x:Exn}{S:Store}{k:α->Store->Rs β}:(Rs.ex x S:Rs α).bind k=.ex x S:=rfl
@[simp] theorem Rs.bind_bad {α β:Type}{k:α->Store->Rs β}:(Rs.bad:Rs α).bind k=.bad:=rfl
noncomputable def Rs.then {α:Type}(r:Rs α) (k:α->Store->SR):SR:=match r with
 | .ok a S=>k a S
 | .ex x S=>.ex x S
 | .bad=>.bad
@[simp] theorem Rs.then_ok {α:Type}{a:α}{S:Store}{k:α->Store->SR}:(Rs.ok a S).then k=k a S:=rfl
@[simp] theorem Rs.then_ex {α:Type}{x:Exn}{S:Store}{k:α->Store->SR}:(Rs.ex x S:Rs α).then k=.ex x S:=rfl
@[simp] theorem Rs.then_bad {α:Type}{k:α->Store->SR}:(Rs.bad:Rs α).then k=.bad:=rfl
noncomputable def lift {α:Type}(o:Option α) (S:Store):Rs α:=match o with
 | some a=>.ok a S
 | none=>.bad
@[simp] theorem zAs {α:Type}{a:α}{S:Store}:lift (some a) S=.ok a S:=rfl
@[simp] theorem zZa {α:Type}{S:Store}:lift (none:Option α) S=.bad:=rfl
noncomputable def zW9 {α:Type}(o:Option (α × Store)):Rs α:=match o with
 | some a=>.ok a.1 a.2
 | none=>.bad
@[simp] theorem zH3 {α:Type}{a:α × Store}:zW9 (some a)=.ok a.1 a.2:=rfl
@[simp] theorem zXh {α:Type}:zW9 (none:Option (α × Store))=.bad:=rfl
mutual
/-- all refs are below n -/
noncomputable def D.low (n:Nat):D->Bool
 | .ref m=>decide (m<n)
 | .tup l=>lowL n l
 | .lst l=>lowL n l
 | .ktup l=>lowL n l
 | .klst l=>lowL n l
 | .dct _ ks vs=>lowL n ks && lowL n vs
 | .st l=>lowL n l
 | .non=>true
 | .bl _=>true
 | .int _=>true
 | .str _=>true
 | .ty _=>true
noncomputable def lowL (n:Nat):List D->Bool
 | []=>true
 | d::r=>d.low n && lowL n r
end
mutual
/-- they may be compared: of one kind wherever == looks;no refs -/
noncomputable def D.cmp:D->D->Bool
 | .non,.non=>true
 | .bl _,.bl _=>true
 | .int _,.int _=>true
 | .str _,.str _=>true
 | .tup a,.tup b=>cmpL a b
 | .lst a,.lst b=>cmpL a b
 | _,_=>false
noncomputable def cmpL:List D->List D->Bool
 | a::r,b::t=>a.cmp b && cmpL r t
 | _,_=>true
end
noncomputable section
open Classical
noncomputable def look (S:Store):D->Option D
 | .ref n=>S[n]?
 | .ktup l=>some (.tup l)
 | .klst l=>some (.lst l)
 | d=>some d
noncomputable def items (S:Store) (d:D):Option (List D):=match look S d with
 | some (.tup l)=>some l
 | some (.lst l)=>some l
 | _=>none
noncomputable def litems (S:Store) (d:D):Option (List D):=match d with
 | .klst _=>none
 | d=>match look S d with
  | some (.lst l)=>some l
  | _=>none
noncomputable abbrev EM:=Env->Store->Rs D
noncomputable abbrev TM:=Env->Store->Rs Bool
noncomputable abbrev AM:=Env->Store->Rs (List D)
noncomputable abbrev SM:=Env->Store->SR
noncomputable abbrev GM:=Store->D->Env->Option Env
noncomputable abbrev Fn:=List D->Store->Rs D
noncomputable def eVar (i:Nat):EM:=fun env S=>match env[i]? with
 | some (some d)=>.ok d S
 | _=>.bad
noncomputable def eC (d:D):EM:=fun _ S=>.ok d S
noncomputable def eOp (g:Store->D->D->Option D) (a b:EM):EM:=fun env S=>(a env S).bind fun x S1=>(b env S1).bind fun y S2=>lift (g S2 x y) S2
noncomputable def eUn (g:Store->D->Option D) (a:EM):EM:=fun env S=>(a env S).bind fun x S1=>lift (g S1 x) S1
noncomputable def aNil:AM:=fun _ S=>.ok [] S
noncomputable def zA0 (a:EM) (r:AM):AM:=fun env S=>(a env S).bind fun x S1=>(r env S1).bind fun xs S2=>.ok (x::xs) S2
noncomputable def eTup (a:AM):EM:=fun env S=>(a env S).bind fun xs S1=>.ok (.tup xs) S1
noncomputable def eLst (a:AM):EM:=fun env S=>(a env S).bind fun xs S1=>.ok (.lst xs) S1
noncomputable def zT1 (ks:List D) (a:AM):EM:=fun env S=>(a env (S++[.dct false [] []])).bind fun vs S1=>if S1[S.length]?=some (.dct false [] [])then .ok (.ref S.length) (S1.set S.length (.dct false ks vs))else .bad
noncomputable def eNew (a:EM):EM:=fun env S=>(a env S).bind fun x S1=>.ok (.ref S1.length) (S1++[x])
noncomputable def eCB (g:Store->List D->Option D) (a:AM):EM:=fun env S=>(a env S).bind fun xs S1=>lift (g S1 xs) S1
noncomputable def zAg (F:Fn) (a:AM):EM:=fun env S=>(a env S).bind fun xs S1=>F xs S1
noncomputable def tyD (S:Store) (d:D):Option String:=match look S d with
 | some (.str _)=>some "str"
 | some (.lst _)=>some "list"
 | some (.dct _ _ _)=>some "dict"
 | some (.tup _)=>some "tuple"
 | some (.int _)=>some "int"
 | some (.bl _)=>some "bool"
 | some .non=>some "NoneType"
 | some (.st _)=>some "set"
 | _=>none
noncomputable def eMt (T:String) (g:Store->D->List D->Option (D × Store)) (o:EM) (a:AM):EM:=fun env S=>(o env S).bind fun x S1=>if tyD S1 x=some T then(a env S1).bind fun xs S2=>zW9 (g S2 x xs)else .bad
noncomputable def asI:D->Option Int
 | .int i=>some i
 | _=>none
noncomputable def pNo:Env->Store->Rs (Option Int):=fun _ S=>.ok none S
noncomputable def pYes (a:EM):Env->Store->Rs (Option Int):=fun env S=>(a env S).bind fun x S1=>lift ((asI x).map some) S1
noncomputable def eSl (g:Store->D->Option Int->Option Int->Option D) (a:EM) (lo hi:Env->Store->Rs (Option Int)):EM:=fun env S=>
 (a env S).bind fun x S1=>(lo env S1).bind fun l S2=>(hi env S2).bind fun h S3=>lift (g S3 x l h) S3
noncomputable def asB:D->Option Bool
 | .bl b=>some b
 | _=>none
noncomputable def tB (a:EM):TM:=fun env S=>(a env S).bind fun x S1=>lift (asB x) S1
noncomputable def most:Nat:=2 ^ 24
noncomputable def truth (S:Store) (d:D):Option Bool:=match look S d with
 | some (.bl b)=>some b
 | some (.int i)=>some (decide (i≠0))
 | some (.str x)=>if x.length<=most then some (decide (x.length≠0))else none
 | some (.tup l)=>some (decide (l≠[]))
 | some (.lst l)=>some (decide (l≠[]))
 | some .non=>some false
 | _=>none
noncomputable def tTru (a:EM):TM:=fun env S=>(a env S).bind fun x S1=>lift (truth S1 x) S1
noncomputable def tAnd (a b:TM):TM:=fun env S=>(a env S).bind fun c S1=>if c=true then b env S1 else .ok false S1
noncomputable def tOr (a b:TM):TM:=fun env S=>(a env S).bind fun c S1=>if c=true then .ok true S1 else b env S1
noncomputable def tNot (a:TM):TM:=fun env S=>(a env S).bind fun c S1=>.ok (!c) S1
noncomputable def tYes:TM:=fun _ S=>.ok true S
noncomputable def eAnd (a b:EM):EM:=fun env S=>(a env S).bind fun x S1=>(lift (asB x) S1).bind fun c S1=>if c=true then b env S1 else .ok (.bl false) S1
noncomputable def eOr (a b:EM):EM:=fun env S=>(a env S).bind fun x S1=>(lift (asB x) S1).bind fun c S1=>if c=true then .ok (.bl true) S1 else b env S1
noncomputable def eNot (a:EM):EM:=fun env S=>(a env S).bind fun x S1=>(lift (asB x) S1).bind fun c S1=>.ok (.bl (!c)) S1
noncomputable def eIf (c:TM) (a b:EM):EM:=fun env S=>(c env S).bind fun k S1=>if k=true then a env S1 else b env S1
noncomputable def zJl (g g':Store->D->D->Option D) (a b c:EM):EM:=fun env S=>(a env S).bind fun x S1=>(b env S1).bind fun y S2=>(lift (g S2 x y) S2).bind fun z S3=>(lift (asB z) S3).bind fun k S3=>
 if k=true then(c env S3).bind fun w S4=>lift (g' S4 y w) S4 else .ok (.bl false) S3
structure Walk where
 its:List D
 gd:List (Nat × D)
noncomputable def gOk (S:Store) (gd:List (Nat × D)):Prop:=∀p∈gd,S[p.1]?=some p.2
noncomputable abbrev IM:=Env->Store->Rs Walk
noncomputable def gdOf (S:Store):D->List (Nat × D)
 | .ref n=>match S[n]? with
  | some d=>[(n,d)]
  | none=>[]
 | _=>[]
noncomputable def chars (x:Str):List D:=x.cps.toList.map fun c=>.str ⟨#[c]⟩
noncomputable def zCa (S:Store) (d:D):Option Walk:=match look S d with
 | some (.tup l)=>some ⟨l,gdOf S d⟩
 | some (.lst l)=>some ⟨l,gdOf S d⟩
 | some (.str x)=>if x.cps.all (·<128)then some ⟨chars x,[]⟩else none
 | _=>none
noncomputable def iVal (a:EM):IM:=fun env S=>(a env S).bind fun x S1=>lift (zCa S1 x) S1
noncomputable def fits62 (i:Int):Bool:=decide (-(2 ^ 62)<=i/\i<2 ^ 62)
noncomputable def zGx (i j:Int):List D:=(List.range (j-i).toNat).map fun(k:Nat)=>.int (i+k)
noncomputable def zHw:List D->Option Walk
 | [.int j]=>if fits62 j then some ⟨zGx 0 j,[]⟩else none
 | [.int i,.int j]=>if fits62 i && fits62 j then some ⟨zGx i j,[]⟩else none
 | _=>none
noncomputable def zCs (a:AM):IM:=fun env S=>(a env S).bind fun xs S1=>lift (zHw xs) S1
noncomputable def zF9 (l:List D) (n:Nat):List D:=match l with
 | []=>[]
 | d::r=>.tup [.int n,d]::zF9 r (n+1)
noncomputable def gName (i:Nat):GM:=fun _ d env=>some (env.set i (some d))
noncomputable def gAll:List GM->Store->List D->Env->Option Env
 | [],_,[],env=>some env
 | g::gs,S,d::ds,env=>match g S d env with
  | some env'=>gAll gs S ds env'
  | none=>none
 | _,_,_,_=>none
noncomputable def gTup (gs:List GM):GM:=fun S d env=>match items S d with
 | some l=>gAll gs S l env
 | none=>none
noncomputable def zCw (gd:List (Nat × D)) (g:GM) (c:TM) (e:EM):Nat->List D->Env->Store->Rs (List D)
 | _,[],_,S=>if gOk S gd then .ok [] S else .bad
 | k,d::r,env,S=>if gOk S gd/\k<most then(match g S d env with
  | some env'=>(c env' S).bind fun b S1=>if b=true then(e env' S1).bind fun v S2=>(zCw gd g c e (k+1) r env' S2).bind fun vs S3=>.ok (v::vs) S3 else zCw gd g c e k r env' S1
  | none=>.bad)else .bad
noncomputable def compEnv (own:Nat) (ix:List Nat) (env:Env):Env:=List.replicate own none++ix.map fun i=>(env[i]?).join
noncomputable def zAh (own:Nat) (ix:List Nat) (i:IM) (g:GM) (c:TM) (e:EM):EM:=fun env S=>
 (i env S).bind fun w S1=>(zCw w.gd g c e 0 w.its (compEnv own ix env) S1).bind fun vs S2=>.ok (.lst vs) S2
noncomputable def zAv:SM:=fun env S=>.nx env S
noncomputable def sSeq (a b:SM):SM:=fun env S=>match a env S with
 | .nx e S1=>b e S1
 | r=>r
noncomputable def sSet (i:Nat) (e:EM):SM:=fun env S=>(e env S).then fun d S1=>.nx (env.set i (some d)) S1
noncomputable def sUnp (g:GM) (e:EM):SM:=fun env S=>(e env S).then fun d S1=>match g S1 d env with
 | some env'=>.nx env' S1
 | none=>.bad
noncomputable def zE1 (e:EM):SM:=fun env S=>(e env S).then fun _ S1=>.nx env S1
noncomputable def sRet (e:EM):SM:=fun env S=>(e env S).then fun d S1=>.rt d S1
noncomputable def yAi:SM:=fun _ S=>.rt .non S
noncomputable def sIf (c:TM) (a b:SM):SM:=fun env S=>(c env S).then fun k S1=>if k=true then a env S1 else b env S1
noncomputable def zOc:List Nat->List D->Env->Option Env
 | [],[],env=>some env
 | i::is,d::ds,env=>zOc is ds (env.set i (some d))
 | _,_,_=>none
noncomputable def sPar (is:List Nat) (a:AM):SM:=fun env S=>(a env S).then fun ds S1=>match zOc is ds env with
 | some env'=>.nx env' S1
 | none=>.bad
noncomputable def sPut (g:Store->D->D->D->Option Store) (o i v:EM):SM:=fun env S=>(v env S).then fun y S1=>(o env S1).then fun x S2=>(i env S2).then fun k S3=>match g S3 x k y with
 | some S4=>.nx env S4
 | none=>.bad
noncomputable def forL (gd:List (Nat × D)) (g:GM) (b:SM):List D->Env->Store->SR
 | [],env,S=>if gOk S gd then .nx env S else .bad
 | d::r,env,S=>if gOk S gd then(match g S d env with
  | some env'=>(match b env' S with
   | .nx e S1=>forL gd g b r e S1
   | .ct e S1=>forL gd g b r e S1
   | .bk e S1=>.nx e S1
   | q=>q)
  | none=>.bad)else .bad
noncomputable def sFor (i:IM) (g:GM) (b:SM):SM:=fun env S=>(i env S).then fun w S1=>forL w.gd g b w.its env S1
noncomputable def zBv (c:TM) (b:SM):Nat->Env->Store->SR
 | 0,_,_=>.bad
 | n+1,env,S=>(c env S).then fun k S1=>if k=true then(match b env S1 with
   | .nx e S2=>zBv c b n e S2
   | .ct e S2=>zBv c b n e S2
   | .bk e S2=>.nx e S2
   | q=>q)else .nx env S1
noncomputable def zFq (c:TM) (b:SM):SM:=fun env S=>if h:∃n,zBv c b n env S≠.bad then zBv c b (choose h) env S else .bad
theorem zD5 {c:TM}{b:SM}:∀{n:Nat}{env:Env}{S:Store},zBv c b n env S≠.bad->∀m,n<=m->zBv c b m env S=zBv c b n env S
 | 0,_,_,h,_,_=>absurd rfl h
 | n+1,env,S,h,m,hm=>by
  obtain⟨m,rfl⟩:∃k,m=k+1:=⟨m-1,by nofun⟩
  unfold zBv at h ⊢
  cases hc:c env S with
  | ok k S1=>
   rw[hc]at h
   simp only[Rs.then_ok]at h ⊢
   by_cases hk:k=true
   ·rw[xf hk]at h ⊢
    rw[xf hk]
    cases hb:b env S1 with
    | nx e S2=>rw[hb]at h;exact zD5 h m (by nofun)
    | ct e S2=>rw[hb]at h;exact zD5 h m (by nofun)
    | _=>rfl
   ·rw[xg hk,xg hk]
  | ex x S1=>rfl
  | bad=>rfl
theorem zOf {c:TM}{b:SM}{n:Nat}{env:Env}{S:Store}(h:zBv c b n env S≠.bad):zFq c b env S=zBv c b n env S:=by
 unfold zFq
 have hx:∃n,zBv c b n env S≠.bad:=⟨n,h⟩
 rw[dif_pos hx]
 have h1:=choose_spec hx
 rw[<- zD5 h1 (max (choose hx) n) (Nat.le_max_left _ _),<- zD5 h (max (choose hx) n) (Nat.le_max_right _ _)]
noncomputable def keeps (n:Nat):Store->Store->Prop
 | [],_=>True
 | a::r,b::t=>(a=b\/b.low n=true)/\keeps n r t
 | _::_,[]=>False
noncomputable def fin (S:Store) (d:D) (S':Store):Rs D:=
 if keeps S.length S S' then
  if d.low S.length=true then .ok d (S'.take S.length)
  else match d with
   | .ref n=>match S'[n]? with
    | some c=>if c.low S.length=true then .ok c (S'.take S.length)else .ok d S'
    | none=>.bad
   | _=>.ok d S'
 else .ok d S'
noncomputable def zBp (np nl:Nat) (b:SM):Fn:=fun ds S=>if ds.length=np then
  (match b (ds.map some++List.replicate (nl-np) none) S with
  | .nx _ S'=>fin S .non S'
  | .rt d S'=>fin S d S'
  | .ex x S'=>.ex x S'
  | _=>.bad)
 else .bad
noncomputable def zIk (np nl:Nat) (b:SM):Fn:=fun ds S=>if ds.length=np then
  (match b (ds.map some++List.replicate (nl-np) none) S with
  | .nx _ S'=>.ok .non S'
  | .rt d S'=>.ok d S'
  | .ex x S'=>.ex x S'
  | _=>.bad)
 else .bad
end
end DS
namespace L2
open PySem PySem.Spec PyProof.Rows
open DS (D Store Exn Rs SR)
noncomputable abbrev Js:=List Addr
noncomputable def TAt (K:PySem.W.Frag) (J:Js) (H:Hp) (a:Addr) (xs:List V):Prop:=H a=some (.tup xs)/\a ∉ J
noncomputable def KAt (K:PySem.W.Frag) (a:Addr) (xs:List V):Prop:=∃(o:Obj) (its:Array Value) (n:Nat),K.lookup a=some o/\o.cls=.type "tuple"/\o.data=.seq its n/\its.size<=sizeLine/\Vals xs its.toList
noncomputable def LAt (K:PySem.W.Frag) (J:Js) (H:Hp) (a:Addr) (xs:List V):Prop:=H a=some (.lst xs)/\a ∉ J
noncomputable def SAt (K:PySem.W.Frag) (J:Js) (H:Hp) (a:Addr) (xs:List V):Prop:=
 (Rd H a (.lst xs)/\a ∉ J)\/∃(o:Obj) (its:Array Value) (n:Nat),K.lookup a=some o/\o.cls=.type "list"/\o.dict=none/\o.data=.seq its n/\its.size<=sizeLine/\Vals xs its.toList
noncomputable def keyD:Key->D
 | .inl i=>.int i
 | .inr x=>.str x
noncomputable def zIt (k:List Key):D:=.tup (k.map keyD)
noncomputable def DOb (o:HO) (t:Bool) (ks:List D) (xs:List V):Prop:=
 (t=false/\∃kvs:List (Key × V),o=.dK kvs/\ks=kvs.map (fun p=>keyD p.1)/\xs=kvs.map (·.2)) \/
  (t=true/\∃kvs:List (List Key × V),o=.dT kvs/\ks=kvs.map (fun p=>zIt p.1)/\xs=kvs.map (·.2))
mutual
noncomputable def Rep (K:PySem.W.Frag) (J:Js) (H:Hp):D->V->Prop
 | .non,v=>v=.non
 | .bl b,v=>v=.bl b
 | .int i,v=>v=.int i
 | .str x,v=>v=.str x
 | .ty n,v=>v=.ty n
 | .tup ds,v=>∃a xs,v=.ref a/\TAt K J H a xs/\RepL K J H ds xs
 | .lst ds,v=>∃a xs,v=.ref a/\LAt K J H a xs/\RepL K J H ds xs
 | .ktup ds,v=>∃a xs,v=.ref a/\KAt K a xs/\RepL K J H ds xs
 | .klst ds,v=>∃a xs,v=.ref a/\SAt K J H a xs/\RepL K J H ds xs
 | .dct t ks vs,v=>∃a o xs,v=.ref a/\a ∉ J/\H a=some o/\DOb o t ks xs/\RepL K J H vs xs
 | .st _,_=>False
 | .ref n,v=>∃a,J[n]?=some a/\v=.ref a
noncomputable def RepL (K:PySem.W.Frag) (J:Js) (H:Hp):List D->List V->Prop
 | [],xs=>xs=[]
 | d::ds,xs=>∃x r,xs=x::r/\Rep K J H d x/\RepL K J H ds r
end
noncomputable def ObD (K:PySem.W.Frag) (J:Js) (H:Hp):D->HO->Prop
 | .lst ds,o=>∃xs,o=.lst xs/\RepL K J H ds xs
 | .dct t ks vs,o=>∃xs,DOb o t ks xs/\RepL K J H vs xs
 | _,_=>False
noncomputable def RepO (K:PySem.W.Frag) (J:Js) (H:Hp) (d:D) (a:Addr):Prop:=∃o,H a=some o/\ObD K J H d o
structure AbS (K:PySem.W.Frag) (J:Js) (S:Store) (H:Hp):Prop where
 len:J.length=S.length
 nd:J.Nodup
 ob:∀(i:Nat) (a:Addr) (d:D),J[i]?=some a->S[i]?=some d->RepO K J H d a
structure Grow (J:Js) (H:Hp) (J':Js) (H':Hp):Prop where
 pre:∀(i:Nat) (a:Addr),J[i]?=some a->J'[i]?=some a
 new:∀a∈J',a ∉ J->H a=none
 keep:∀b o,b ∉ J->H b=some o->H' b=some o
 dom:∀b,H' b=none->H b=none
structure RepE (K:PySem.W.Frag) (J:Js) (H:Hp) (env:DS.Env) (σ:St):Prop where
 len:env.length=σ.length
 get:∀(i:Nat) (d:D),env[i]?=some (some d)->∃v,σ[i]?=some (some v)/\Rep K J H d v
section
variable {K:PySem.W.Frag}{J J' J1 J2:Js}{H H' H1 H2:Hp}{a:Addr}{d:D}{v:V}{S S':Store}{env:DS.Env}{σ:St}
theorem Grow.refl:Grow J H J H:=⟨fun _ _ h=>h,fun _ h n=>absurd h n,fun _ _ _ h=>h,fun _ h=>h⟩
theorem Grow.trans (g:Grow J H J1 H1) (k:Grow J1 H1 J2 H2):Grow J H J2 H2 where
 pre:=fun i a h=>k.pre i a (g.pre i a h)
 new:=fun a h n=>by
  by_cases z:a∈J1
  ·exact g.new a z n
  ·exact g.dom a (k.new a h z)
 keep:=fun b o n h=>k.keep b o (fun z=>by rw[g.new b z n]at h;cases h) (g.keep b o n h)
 dom:=fun b h=>g.dom b (k.dom b h)
theorem Grow.out {o:HO}(g:Grow J H J' H') (n:a ∉ J) (h:H a=some o):a ∉ J':=fun z=>by rw[g.new a z n]at h;cases h
theorem Grow.rd {u:HO}(g:Grow J H J' H') (n:a ∉ J) (h:Rd H a u):Rd H' a u/\a ∉ J':=by
 rcases h with h|⟨o,h⟩
 ·exact⟨.inl (g.keep _ _ n h),g.out n h⟩
 ·exact⟨.inr ⟨o,g.keep _ _ n h⟩,g.out n h⟩
theorem TAt.sq {xs:List V}(h:TAt K J H a xs):SqT K H a xs:=.inl (.inl h.1)
theorem KAt.sq {xs:List V}(h:KAt K a xs):SqT K H a xs:=.inr h
theorem LAt.sq {xs:List V}(h:LAt K J H a xs):SqL K H a xs:=.inl (.inl h.1)
theorem SAt.sq {xs:List V}(h:SAt K J H a xs):SqL K H a xs:=by
 rcases h with h|h
 ·exact .inl h.1
 ·exact .inr h
theorem SAt.grow {xs:List V}(g:Grow J H J' H') (h:SAt K J H a xs):SAt K J' H' a xs:=by
 rcases h with h|h
 ·exact .inl (g.rd h.2 h.1)
 ·exact .inr h
theorem TAt.grow {xs:List V}(g:Grow J H J' H') (h:TAt K J H a xs):TAt K J' H' a xs:=⟨g.keep _ _ h.2 h.1,g.out h.2 h.1⟩
theorem LAt.grow {xs:List V}(g:Grow J H J' H') (h:LAt K J H a xs):LAt K J' H' a xs:=⟨g.keep _ _ h.2 h.1,g.out h.2 h.1⟩
mutual
theorem Rep.grow (g:Grow J H J' H'):∀(d:D) (v:V),Rep K J H d v->Rep K J' H' d v
 | .non,_,h=>h
 | .bl _,_,h=>h
 | .int _,_,h=>h
 | .str _,_,h=>h
 | .ty _,_,h=>h
 | .tup ds,v,⟨a,xs,e,t,r⟩=>⟨a,xs,e,t.grow g,RepL.grow g ds xs r⟩
 | .lst ds,v,⟨a,xs,e,t,r⟩=>⟨a,xs,e,t.grow g,RepL.grow g ds xs r⟩
 | .ktup ds,v,⟨a,xs,e,t,r⟩=>⟨a,xs,e,t,RepL.grow g ds xs r⟩
 | .klst ds,v,⟨a,xs,e,t,r⟩=>⟨a,xs,e,t.grow g,RepL.grow g ds xs r⟩
 | .dct _ ks vs,v,⟨a,o,xs,e,n,h,t,r⟩=>⟨a,o,xs,e,g.out n h,g.keep _ _ n h,t,RepL.grow g vs xs r⟩
 | .st _,_,h=>h
 | .ref n,v,⟨a,e,h⟩=>⟨a,g.pre n a e,h⟩
theorem RepL.grow (g:Grow J H J' H'):∀(ds:List D) (xs:List V),RepL K J H ds xs->RepL K J' H' ds xs
 | [],_,h=>h
 | d::ds,xs,⟨x,r,e,h,t⟩=>⟨x,r,e,Rep.grow g d x h,RepL.grow g ds r t⟩
end
theorem RepE.grow (g:Grow J H J' H') (h:RepE K J H env σ):RepE K J' H' env σ:=⟨h.len,fun i d e=>by
 obtain⟨v,q,r⟩:=h.get i d e
 exact⟨v,q,Rep.grow g d v r⟩⟩
theorem RepL.length:∀{ds:List D}{xs:List V},RepL K J H ds xs->ds.length=xs.length
 | [],_,h=>by cases h;rfl
 | _::ds,_,⟨x,r,e,_,t⟩=>by subst e;simp[RepL.length t]
theorem RepL.get:∀{ds:List D}{xs:List V}{i:Nat}{d:D},RepL K J H ds xs->ds[i]?=some d->∃x,xs[i]?=some x/\Rep K J H d x
 | [],_,_,_,_,e=>by simp at e
 | d::ds,_,0,_,⟨x,r,e,h,t⟩,q=>by subst e;simp at q;subst q;exact⟨x,rfl,h⟩
 | _::ds,_,i+1,d,⟨x,r,e,_,t⟩,q=>by subst e;exact RepL.get (i:=i) t (by simpa using q)
theorem RepL.get' {ds:List D}{xs:List V}{i:Nat}{x:V}(h:RepL K J H ds xs) (e:xs[i]?=some x):∃d,ds[i]?=some d/\Rep K J H d x:=by
 have hl:=h.length
 have hi:i<ds.length:=by rw[hl];exact(xH.mp e).1
 obtain⟨y,ey,r⟩:=h.get (xD hi)
 rw[e]at ey;cases ey
 exact⟨_,xD hi,r⟩
theorem RepL.append:∀{ds es:List D}{xs ys:List V},RepL K J H ds xs->RepL K J H es ys->RepL K J H (ds++es) (xs++ys)
 | [],_,_,_,h,k=>by cases h;exact k
 | d::ds,_,_,_,⟨x,r,e,h,t⟩,k=>by subst e;exact⟨x,_,rfl,h,t.append k⟩
theorem RepL.snoc {ds:List D}{xs:List V}{x:V}(h:RepL K J H ds xs) (r:Rep K J H d x):RepL K J H (ds++[d]) (xs++[x]):=h.append ⟨x,[],rfl,r,rfl⟩
theorem RepL.take:∀{ds:List D}{xs:List V}(n:Nat),RepL K J H ds xs->RepL K J H (ds.take n) (xs.take n)
 | _,_,0,_=>rfl
 | [],_,_+1,h=>by cases h;rfl
 | d::ds,_,n+1,⟨x,r,e,h,t⟩=>by subst e;exact⟨x,_,rfl,h,t.take n⟩
theorem RepL.drop:∀{ds:List D}{xs:List V}(n:Nat),RepL K J H ds xs->RepL K J H (ds.drop n) (xs.drop n)
 | _,_,0,h=>h
 | [],_,_+1,h=>by cases h;rfl
 | d::ds,_,n+1,⟨x,r,e,h,t⟩=>by subst e;exact t.drop n
theorem RepL.reverse:∀{ds:List D}{xs:List V},RepL K J H ds xs->RepL K J H ds.reverse xs.reverse
 | [],_,h=>by cases h;rfl
 | d::ds,_,⟨x,r,e,h,t⟩=>by subst e;rw[List.reverse_cons,List.reverse_cons];exact t.reverse.snoc h
theorem RepL.dropLast {ds:List D}{xs:List V}(h:RepL K J H ds xs):RepL K J H ds.dropLast xs.dropLast:=by
 rw[List.dropLast_eq_take,List.dropLast_eq_take,h.length];exact h.take _
theorem RepL.ints:∀{ns:List Int},RepL K J H (ns.map D.int) (ns.map V.int)
 | []=>rfl
 | n::ns=>⟨_,_,rfl,rfl,RepL.ints⟩
theorem AbS.lt (h:AbS K J S H) {n:Nat}(e:J[n]?=some a):n<S.length:=by rw[<- h.len];exact(xH.mp e).1
theorem AbS.at (h:AbS K J S H) {n:Nat}(e:J[n]?=some a):∃d,S[n]?=some d/\RepO K J H d a:=
 ⟨S[n]'(h.lt e),xD (h.lt e),h.ob n a _ e (xD (h.lt e))⟩
theorem AbS.mem (h:AbS K J S H) (m:a∈J):∃o,H a=some o:=by
 obtain⟨i,e⟩:=yE.mp m
 obtain⟨d,_,o,r,_⟩:=h.at e
 exact⟨o,r⟩
theorem AbS.out (h:AbS K J S H) (n:H a=none):a ∉ J:=fun m=>by
 obtain⟨o,e⟩:=h.mem m
 rw[n]at e;cases e
theorem ObD.imp {o:HO}(rl:∀ds xs,RepL K J H ds xs->RepL K J' H' ds xs):∀{d:D},ObD K J H d o->ObD K J' H' d o
 | .lst ds,⟨xs,e,r⟩=>⟨xs,e,rl _ _ r⟩
 | .dct _ ks vs,⟨xs,e,r⟩=>⟨xs,e,rl _ _ r⟩
 | .non,h=>False.elim h
 | .bl _,h=>False.elim h
 | .int _,h=>False.elim h
 | .str _,h=>False.elim h
 | .ty _,h=>False.elim h
 | .tup _,h=>False.elim h
 | .ktup _,h=>False.elim h
 | .klst _,h=>False.elim h
 | .st _,h=>False.elim h
 | .ref _,h=>False.elim h
theorem ObD.grow {o:HO}(g:Grow J H J' H') (h:ObD K J H d o):ObD K J' H' d o:=h.imp (RepL.grow g)
theorem Grow.of (k:∀b o,H b=some o->H' b=some o):Grow J H J H':=⟨fun _ _ h=>h,fun _ h n=>absurd h n,fun b o _ h=>k b o h,fun b h=>by
 cases e:H b with
 | none=>rfl
 | some o=>rw[k b o e]at h;cases h⟩
theorem AbS.more (h:AbS K J S H) (k:∀b o,H b=some o->H' b=some o):AbS K J S H':=
 ⟨h.len,h.nd,fun i a d e q=>by
  obtain⟨o,eo,r⟩:=h.ob i a d e q
  exact⟨o,k _ _ eo,r.grow (.of k)⟩⟩
theorem zFe {p:Addr}{o:HO}(n:H p=none):∀b u,H b=some u->upd H p o b=some u:=fun b u e=>by rw[zAq (zAm e n)];exact e
theorem AbS.push {p:Addr}{o:HO}(h:AbS K J S H) (n:H p=none):AbS K J S (upd H p o):=h.more (zFe n)
theorem Grow.push {p:Addr}{o:HO}(n:H p=none):Grow J H J (upd H p o):=.of (zFe n)
theorem Grow.name {p:Addr}{o:HO}(n:H p=none):Grow J H (J++[p]) (upd H p o) where
 pre:=fun i a h=>by rw[vv (xH.mp h).1];exact h
 new:=fun a h z=>by
  rcases xG.mp h with h|h
  ·exact absurd h z
  ·rw[xF.mp h];exact n
 keep:=fun b u _ e=>zFe n b u e
 dom:=(Grow.push (J:=J) n).dom
theorem AbS.name {p:Addr}{o:HO}(h:AbS K J S H) (n:H p=none) (r:ObD K J H d o):AbS K (J++[p]) (S++[d]) (upd H p o):=by
 have hp:p ∉ J:=h.out n
 have g:Grow J H (J++[p]) (upd H p o):=.name n
 refine⟨by simp[h.len],?_,fun i a d' e q=>?_⟩
 ·refine List.nodup_append.mpr ⟨h.nd,(vP.mpr ⟨by simp,List.nodup_nil⟩),fun x hx y hy=>?_⟩
  rintro rfl
  exact hp (by rw[<- xF.mp hy];exact hx)
 ·by_cases hi:i<J.length
  ·rw[vv hi]at e
   rw[vv (by rw[<- h.len];exact hi)]at q
   obtain⟨o',eo,r'⟩:=h.ob i a d' e q
   exact⟨o',zFe n _ _ eo,r'.grow g⟩
  ·have hl:i=J.length:=by
    have:=(xH.mp e).1
    simp at this
    lia
   subst hl
   rw[vQ (xi _)]at e
   rw[vQ (by rw[h.len];exact xi _),h.len]at q
   simp at e q
   subst e q
   exact⟨o,zB1,r.grow g⟩
theorem Grow.write {n:Nat}{o:HO}(e:J[n]?=some a):Grow J H J (upd H a o) where
 pre:=fun _ _ h=>h
 new:=fun b h z=>absurd h z
 keep:=fun b u z h=>by rw[zAq (fun q=>z (by rw[q];exact v5 e))];exact h
 dom:=fun b h=>by
  by_cases q:b=a
  ·subst q;rw[zB1]at h;cases h
  ·rw[zAq q]at h;exact h
theorem AbS.write {n:Nat}{o:HO}(h:AbS K J S H) (e:J[n]?=some a) (r:ObD K J H d o):AbS K J (S.set n d) (upd H a o):=by
 have g:Grow J H J (upd H a o):=.write e
 refine⟨by simp[h.len],h.nd,fun i b d' ei q=>?_⟩
 by_cases hi:i=n
 ·subst hi
  rw[e]at ei;cases ei
  rw[vF (h.lt e)]at q
  cases q
  exact⟨o,zB1,r.grow g⟩
 ·rw[xO (xw hi)]at q
  obtain⟨o',eo,r'⟩:=h.ob i b d' ei q
  have hb:b≠a:=fun z=>by
   subst z
   exact hi ((List.getElem?_inj (xH.mp ei).1 h.nd).mp (ei.trans e.symm))
  exact⟨o',by rw[zAq hb];exact eo,r'.grow g⟩
theorem lowL_iff {n:Nat}:∀{l:List D},DS.lowL n l=true <-> ∀d∈l,d.low n=true
 | []=>⟨(fun _ _ h=>nomatch h),fun _=>rfl⟩
 | d::r=>by
  show(d.low n && DS.lowL n r)=true <-> _
  rw[xM,lowL_iff (l:=r)]
  simp
theorem zLw (n:Nat) (k:Key):(keyD k).low n=true:=by cases k <;> rfl
theorem DOb.low {o:HO}{t:Bool}{ks:List D}{xs:List V}{n:Nat}(h:DOb o t ks xs):DS.lowL n ks=true:=by
 rcases h with⟨_,kvs,_,rfl,_⟩|⟨_,kvs,_,rfl,_⟩
 ·exact lowL_iff.mpr fun d hd=>by obtain⟨p,_,rfl⟩:=xq.mp hd;exact zLw n p.1
 ·exact lowL_iff.mpr fun d hd=>by
   obtain⟨p,_,rfl⟩:=xq.mp hd
   show DS.lowL n (p.1.map keyD)=true
   exact lowL_iff.mpr fun d hd=>by obtain⟨q,_,rfl⟩:=xq.mp hd;exact zLw n q
mutual
theorem Rep.low:∀(d:D) (v:V),Rep K J H d v->d.low J.length=true
 | .non,_,_=>rfl
 | .bl _,_,_=>rfl
 | .int _,_,_=>rfl
 | .str _,_,_=>rfl
 | .ty _,_,_=>rfl
 | .tup ds,v,⟨a,xs,e,t,r⟩=>RepL.low ds xs r
 | .lst ds,v,⟨a,xs,e,t,r⟩=>RepL.low ds xs r
 | .ktup ds,v,⟨a,xs,e,t,r⟩=>RepL.low ds xs r
 | .klst ds,v,⟨a,xs,e,t,r⟩=>RepL.low ds xs r
 | .dct _ ks vs,v,⟨a,o,xs,e,n,h,t,r⟩=>by
  show(DS.lowL J.length ks && DS.lowL J.length vs)=true
  rw[RepL.low vs xs r,Bool.and_true]
  exact DOb.low t
 | .st _,_,h=>False.elim h
 | .ref n,v,⟨a,e,h⟩=>xv (xH.mp e).1
theorem RepL.low:∀(ds:List D) (xs:List V),RepL K J H ds xs->DS.lowL J.length ds=true
 | [],_,_=>rfl
 | d::ds,xs,⟨x,r,e,h,t⟩=>by
  show(d.low J.length && DS.lowL J.length ds)=true
  rw[Rep.low d x h,RepL.low ds r t];rfl
end
theorem ObD.low {o:HO}:∀{d:D},ObD K J H d o->d.low J.length=true
 | .lst ds,⟨xs,_,r⟩=>RepL.low ds xs r
 | .dct _ ks vs,⟨xs,t,r⟩=>by
  show(DS.lowL J.length ks && DS.lowL J.length vs)=true
  rw[RepL.low vs xs r,Bool.and_true]
  exact DOb.low t
 | .non,h=>False.elim h
 | .bl _,h=>False.elim h
 | .int _,h=>False.elim h
 | .str _,h=>False.elim h
 | .ty _,h=>False.elim h
 | .tup _,h=>False.elim h
 | .ktup _,h=>False.elim h
 | .klst _,h=>False.elim h
 | .st _,h=>False.elim h
 | .ref _,h=>False.elim h
theorem zDr {n:Nat}(h:a ∉ J):a ∉ J.take n:=fun z=>h (yJ z)
mutual
theorem Rep.cut (n:Nat):∀(d:D) (v:V),d.low n=true->Rep K J H d v->Rep K (J.take n) H d v
 | .non,_,_,h=>h
 | .bl _,_,_,h=>h
 | .int _,_,_,h=>h
 | .str _,_,_,h=>h
 | .ty _,_,_,h=>h
 | .tup ds,v,l,⟨a,xs,e,t,r⟩=>⟨a,xs,e,⟨t.1,zDr t.2⟩,RepL.cut n ds xs l r⟩
 | .ktup ds,v,l,⟨a,xs,e,t,r⟩=>⟨a,xs,e,t,RepL.cut n ds xs l r⟩
 | .klst ds,v,l,⟨a,xs,e,t,r⟩=>⟨a,xs,e,by
   rcases t with t|t
   ·exact .inl ⟨t.1,zDr t.2⟩
   ·exact .inr t,RepL.cut n ds xs l r⟩
 | .lst ds,v,l,⟨a,xs,e,t,r⟩=>⟨a,xs,e,⟨t.1,zDr t.2⟩,RepL.cut n ds xs l r⟩
 | .dct _ ks vs,v,l,⟨a,o,xs,e,q,h,t,r⟩=>⟨a,o,xs,e,zDr q,h,t,RepL.cut n vs xs (by
   have l:(DS.lowL n ks && DS.lowL n vs)=true:=l
   rw[xM]at l
   exact l.2) r⟩
 | .st _,_,_,h=>h
 | .ref m,v,l,⟨a,e,h⟩=>⟨a,by rw[uF (uw l)];exact e,h⟩
theorem RepL.cut (n:Nat):∀(ds:List D) (xs:List V),DS.lowL n ds=true->RepL K J H ds xs->RepL K (J.take n) H ds xs
 | [],_,_,h=>h
 | d::ds,xs,l,⟨x,r,e,h,t⟩=>by
  have l:(d.low n && DS.lowL n ds)=true:=l
  rw[xM]at l
  exact⟨x,r,e,Rep.cut n d x l.1 h,RepL.cut n ds r l.2 t⟩
end
theorem ObD.cut {n:Nat}{o:HO}:∀{d:D},d.low n=true->ObD K J H d o->ObD K (J.take n) H d o
 | .lst ds,l,⟨xs,e,r⟩=>⟨xs,e,RepL.cut n ds xs l r⟩
 | .dct _ ks vs,l,⟨xs,t,r⟩=>⟨xs,t,RepL.cut n vs xs (by
   have l:(DS.lowL n ks && DS.lowL n vs)=true:=l
   rw[xM]at l
   exact l.2) r⟩
 | .non,_,h=>False.elim h
 | .bl _,_,h=>False.elim h
 | .int _,_,h=>False.elim h
 | .str _,_,h=>False.elim h
 | .ty _,_,h=>False.elim h
 | .tup _,_,h=>False.elim h
 | .ktup _,_,h=>False.elim h
 | .klst _,_,h=>False.elim h
 | .st _,_,h=>False.elim h
 | .ref _,_,h=>False.elim h
theorem zFx {n:Nat}:∀{S S':Store},DS.keeps n S S'->∀i,i<S.length->∃b,S'[i]?=some b/\(S[i]?=some b\/b.low n=true)
 | [],_,_,i,hi=>by simp at hi
 | a::r,[],h,_,_=>False.elim h
 | a::r,b::t,h,0,_=>⟨b,rfl,by
   rcases h.1 with e|e
   ·subst e;exact .inl rfl
   ·exact .inr e⟩
 | a::r,b::t,h,i+1,hi=>by simpa using zFx h.2 i (by simpa using hi)
theorem Grow.take (h:AbS K J S H) (g:Grow J H J' H'):J'.take S.length=J:=by
 refine List.ext_getElem? fun i=>?_
 by_cases hi:i<S.length
 ·rw[uF hi]
  have hj:i<J.length:=by rw[h.len];exact hi
  rw[xD hj]
  exact g.pre i _ (xD hj)
 ·rw[vT (by rw[xU];lia),vT (by rw[h.len];lia)]
theorem Grow.cut (g:Grow J H J' H'):Grow J H J H':=⟨fun _ _ h=>h,fun _ h n=>absurd h n,g.keep,g.dom⟩
theorem AbS.cut (h:AbS K J S H) (g:Grow J H J' H') (h':AbS K J' S' H') (k:DS.keeps S.length S S'):AbS K J (S'.take S.length) H':=by
 have e:=g.take h
 refine⟨?_,h.nd,fun i a d ei q=>?_⟩
 ·have l:∀i,i<S.length->i<S'.length:=fun i hi=>by
   obtain⟨b,eb,_⟩:=zFx k i hi
   exact(xH.mp eb).1
  rw[h.len,xU]
  by_cases z:S.length=0
  ·lia
  ·have:=l (S.length-1) (by nofun)
   lia
 ·have hi:=h.lt ei
  rw[uF hi]at q
  obtain⟨b,eb,lo⟩:=zFx k i hi
  rw[q]at eb;cases eb
  obtain⟨o,eo,r⟩:=h'.ob i a d (g.pre i a ei) q
  have low:d.low S.length=true:=by
   rcases lo with lo|lo
   ·obtain⟨o',_,r'⟩:=h.ob i a d ei lo
    have:=r'.low
    rw[h.len]at this
    exact this
   ·exact lo
  have:=r.cut low
  rw[e]at this
  exact⟨o,eo,this⟩
theorem zZs {d2:D}{S2:Store}(h:AbS K J S H) (g:Grow J H J' H') (h':AbS K J' S' H') (r:Rep K J' H' d v) (e:DS.fin S d S'=.ok d2 S2):∃J2,AbS K J2 S2 H'/\Grow J H J2 H'/\Rep K J2 H' d2 v:=by
 have ek:=g.take h
 unfold DS.fin at e
 by_cases k:DS.keeps S.length S S'
 ·rw[xf k]at e
  by_cases l:d.low S.length=true
  ·rw[xf l]at e
   cases e
   refine⟨J,h.cut g h' k,g.cut,?_⟩
   have:=Rep.cut _ _ _ l r
   rw[ek]at this
   exact this
  ·rw[xg l]at e
   cases d with
   | ref n=>
    obtain⟨a,ea,rfl⟩:=r
    obtain⟨c,ec,o,eo,rc⟩:=h'.at ea
    simp only[ec]at e
    by_cases lc:c.low S.length=true
    ·rw[xf lc]at e
     cases e
     refine⟨J,h.cut g h' k,g.cut,?_⟩
     have ha:a ∉ J:=fun z=>by
      obtain⟨i,ei⟩:=yE.mp z
      have hi:=h.lt ei
      have e2:=g.pre i a ei
      have:i=n:=(List.getElem?_inj (xH.mp e2).1 h'.nd).mp (e2.trans ea.symm)
      subst this
      exact l (xv hi)
     have rc2:=rc.cut lc
     rw[ek]at rc2
     cases d2 with
     | lst ds=>obtain⟨xs,rfl,rl⟩:=rc2;exact⟨a,xs,rfl,⟨eo,ha⟩,rl⟩
     | dct _ ks vs=>obtain⟨xs,t,rl⟩:=rc2;exact⟨a,o,xs,rfl,ha,eo,t,rl⟩
     | _=>exact False.elim rc2
    ·rw[xg lc]at e
     cases e
     exact⟨J',h',g,a,ea,rfl⟩
   | _=>cases e;exact⟨J',h',g,r⟩
 ·rw[xg k]at e
  cases e
  exact⟨J',h',g,r⟩
end
end L2
namespace L2
open PySem PySem.Spec PyProof.Rows
open DS (D Store Exn Rs SR)
noncomputable abbrev XE:=Exn->Store->Js->Hp->Prop
noncomputable def XE0:XE:=fun _ _ _ _=>False
noncomputable def Post {α:Type}(K:PySem.W.Frag) (E:XE) (J:Js) (H:Hp) (r:Rs α) (P:α->Store->Js->Hp->Prop):Prop:=match r with
 | .ok a S=>∀J' H',AbS K J' S H'->Grow J H J' H'->P a S J' H'
 | .ex x S=>∀J' H',AbS K J' S H'->Grow J H J' H'->E x S J' H'
 | .bad=>False
noncomputable def PostS (K:PySem.W.Frag) (E:XE) (J:Js) (H:Hp) (r:SR) (D:Ends):Prop:=match r with
 | .nx e S=>∀J' H' σ,AbS K J' S H'->Grow J H J' H'->RepE K J' H' e σ->D.nx σ H'
 | .rt d S=>∀J' H' v,AbS K J' S H'->Grow J H J' H'->Rep K J' H' d v->D.rt v H'
 | .bk e S=>∀J' H' σ,AbS K J' S H'->Grow J H J' H'->RepE K J' H' e σ->D.bk σ H'
 | .ct e S=>∀J' H' σ,AbS K J' S H'->Grow J H J' H'->RepE K J' H' e σ->D.ct σ H'
 | .ex x S=>∀J' H',AbS K J' S H'->Grow J H J' H'->E x S J' H'
 | .bad=>False
section
variable {α β:Type}{K:PySem.W.Frag}{E:XE}{J J1:Js}{H H1:Hp}{S:Store}
theorem Post.grow {r:Rs α}{P:α->Store->Js->Hp->Prop}(g:Grow J H J1 H1) (h:Post K E J H r P):Post K E J1 H1 r P:=by
 cases r with
 | ok a S=>exact fun J' H' h1 h2=>h J' H' h1 (g.trans h2)
 | ex x S=>exact fun J' H' h1 h2=>h J' H' h1 (g.trans h2)
 | bad=>exact h
theorem Post.bind {r:Rs α}{k:α->Store->Rs β}{P:β->Store->Js->Hp->Prop}(h:Post K E J H (r.bind k) P):Post K E J H r (fun a S J' H'=>Post K E J' H' (k a S) P):=by
 cases r with
 | ok a S=>exact fun J' H' _ g=>Post.grow g h
 | ex x S=>exact h
 | bad=>exact h
theorem Post.imp {r:Rs α}{P P':α->Store->Js->Hp->Prop}(h:Post K E J H r P) (k:∀a S J' H',r=.ok a S->AbS K J' S H'->Grow J H J' H'->P a S J' H'->P' a S J' H'):Post K E J H r P':=by
 cases r with
 | ok a S=>exact fun J' H' h1 h2=>k a S J' H' rfl h1 h2 (h J' H' h1 h2)
 | ex x S=>exact h
 | bad=>exact h
theorem Post.map {r:Rs α}{P P':α->Store->Js->Hp->Prop}(h:Post K E J H r P) (k:∀a S J' H',r=.ok a S->AbS K J' S H'->Grow J H J' H'->(∀J2 H2,AbS K J2 S H2->Grow J H J2 H2->P a S J2 H2)->P' a S J' H'):Post K E J H r P':=by
 cases r with
 | ok a S=>exact fun J' H' h1 h2=>k a S J' H' rfl h1 h2 h
 | ex x S=>exact h
 | bad=>exact h
theorem Post.lift {o:Option α}{P:α->Store->Js->Hp->Prop}(h:Post K E J H (DS.lift o S) P):∃a,o=some a/\∀J' H',AbS K J' S H'->Grow J H J' H'->P a S J' H':=by
 cases o with
 | some a=>exact⟨a,rfl,h⟩
 | none=>exact False.elim h
theorem PostS.grow {r:SR}{D:Ends}(g:Grow J H J1 H1) (h:PostS K E J H r D):PostS K E J1 H1 r D:=by
 cases r with
 | nx e S=>exact fun J' H' σ h1 h2=>h J' H' σ h1 (g.trans h2)
 | bk e S=>exact fun J' H' σ h1 h2=>h J' H' σ h1 (g.trans h2)
 | ct e S=>exact fun J' H' σ h1 h2=>h J' H' σ h1 (g.trans h2)
 | rt e S=>exact fun J' H' σ h1 h2=>h J' H' σ h1 (g.trans h2)
 | ex x S=>exact fun J' H' h1 h2=>h J' H' h1 (g.trans h2)
 | bad=>exact h
theorem PostS.then {r:Rs α}{k:α->Store->SR}{D:Ends}(h:PostS K E J H (r.then k) D):Post K E J H r (fun a S J' H'=>PostS K E J' H' (k a S) D):=by
 cases r with
 | ok a S=>exact fun J' H' _ g=>PostS.grow g h
 | ex x S=>exact h
 | bad=>exact h
end
section
variable (K:PySem.W.Frag) (E:XE)
noncomputable def tOf (m:DS.EM):TE:=fun σ H Q=>∃env S J,AbS K J S H/\RepE K J H env σ/\Post K E J H (m env S) (fun d _ J' H'=>∀v,Rep K J' H' d v->Q v H')
noncomputable def tOfF (m:DS.EM):TE:=fun σ H Q=>∃env S J,AbS K J S H/\RepE K J H env σ/\Post K E J H (m env S) (fun d _ J' H'=>∀p o,H' p=none->ObD K J' H' d o->Q (.ref p) (upd H' p o))
noncomputable def ttOf (m:DS.TM):TT:=fun σ H Q=>∃env S J,AbS K J S H/\RepE K J H env σ/\Post K E J H (m env S) (fun b _ _ H'=>Q b H')
noncomputable def aOf (m:DS.AM):TA:=fun σ H Q=>∃env S J,AbS K J S H/\RepE K J H env σ/\Post K E J H (m env S) (fun ds _ J' H'=>∀vs,RepL K J' H' ds vs->Q vs H')
noncomputable def tsOf (m:DS.SM):TS:=fun D σ H=>∃env S J,AbS K J S H/\RepE K J H env σ/\PostS K E J H (m env S) D
noncomputable def gOf (m:DS.GM):TG:=fun v σ H Q=>∃env S J d env',AbS K J S H/\RepE K J H env σ/\Rep K J H d v/\m S d env=some env'/\∀σ',RepE K J H env' σ'->Q σ' H
noncomputable def gsOf (m:Store->List D->DS.Env->Option DS.Env):TGs:=fun vs σ H Q=>∃env S J ds env',AbS K J S H/\RepE K J H env σ/\RepL K J H ds vs/\m S ds env=some env'/\∀σ',RepE K J H env' σ'->Q σ' H
structure ItOk (J0:Js) (H0:Hp) (w:DS.Walk) (I:It):Prop where
 go:∀(i:Nat) (H:Hp) (J:Js) (S:Store),AbS K J S H->Grow J0 H0 J H->DS.gOk S w.gd->i<w.its.length->I.go i H
 yld:∀(i:Nat) (H:Hp) (J:Js) (S:Store) (x:V) (H':Hp),AbS K J S H->Grow J0 H0 J H->DS.gOk S w.gd->I.yld i H x H'->∀d,w.its[i]?=some d->AbS K J S H'/\Grow J H J H'/\Rep K J H' d x
 stop:∀(i:Nat) (H:Hp) (J:Js) (S:Store),AbS K J S H->Grow J0 H0 J H->DS.gOk S w.gd->w.its.length<=i->I.stop i H
noncomputable def iOf (m:DS.IM):TI:=fun σ H R=>∃env S J,AbS K J S H/\RepE K J H env σ/\Post K E J H (m env S) (fun w _ J' H'=>∀I,ItOk K J' H' w I->R I H')
noncomputable def r2Of (g:Store->D->D->Option D):R2:=fun x y H Q=>∃J S d1 d2 d,AbS K J S H/\Rep K J H d1 x/\Rep K J H d2 y/\g S d1 d2=some d/\∀v H',AbS K J S H'->Grow J H J H'->Rep K J H' d v->Q v H'
noncomputable def r1Of (g:Store->D->Option D):V->Hp->VK->Prop:=fun x H Q=>∃J S d1 d,AbS K J S H/\Rep K J H d1 x/\g S d1=some d/\∀v H',AbS K J S H'->Grow J H J H'->Rep K J H' d v->Q v H'
noncomputable def cOf (g:Store->List D->Option D):List V->Hp->VK->Prop:=fun xs H Q=>∃J S ds d,AbS K J S H/\RepL K J H ds xs/\g S ds=some d/\∀v H',AbS K J S H'->Grow J H J H'->Rep K J H' d v->Q v H'
noncomputable def yAk (g:Store->D->D->Option D):R2:=fun x y H Q=>∃J S d1 d2 d,AbS K J S H/\Rep K J H d1 x/\Rep K J H d2 y/\g S d1 d2=some d/\∀p o H',AbS K J S H'->Grow J H J H'->H' p=none->ObD K J H' d o->Q (.ref p) (upd H' p o)
noncomputable def cOfF (g:Store->List D->Option D):List V->Hp->VK->Prop:=fun xs H Q=>∃J S ds d,AbS K J S H/\RepL K J H ds xs/\g S ds=some d/\∀p o H',AbS K J S H'->Grow J H J H'->H' p=none->ObD K J H' d o->Q (.ref p) (upd H' p o)
noncomputable def mOf (g:Store->D->List D->Option (D × Store)):V->List V->Hp->VK->Prop:=fun x xs H Q=>∃J S d1 ds d S',AbS K J S H/\Rep K J H d1 x/\RepL K J H ds xs/\g S d1 ds=some (d,S')/\∀v H',AbS K J S' H'->Grow J H J H'->Rep K J H' d v->Q v H'
noncomputable def spOf (F:DS.Fn):Sp:=fun vs H Q _=>∃J S ds,AbS K J S H/\RepL K J H ds vs/\Post K E J H (F ds S) (fun d _ J' H'=>∀v,Rep K J' H' d v->Q v H')
end
structure DE (X:Cx) (K:PySem.W.Frag) (E:XE) (e:Expr) (m:DS.EM):Prop where h:SE X e (tOf K E m)
structure DF (X:Cx) (K:PySem.W.Frag) (E:XE) (e:Expr) (m:DS.EM):Prop where h:SE X e (tOfF K E m)
structure DT (X:Cx) (K:PySem.W.Frag) (E:XE) (e:Expr) (m:DS.TM):Prop where h:ST X e (ttOf K E m)
structure DW (X:Cx) (K:PySem.W.Frag) (E:XE) (e:Expr) (m:DS.TM):Prop where h:SW X e (ttOf K E m)
structure DIf (X:Cx) (K:PySem.W.Frag) (E:XE) (es:List Expr) (m:DS.TM):Prop where h:SIfs X es (ttOf K E m)
structure DA (X:Cx) (K:PySem.W.Frag) (E:XE) (es:List Expr) (m:DS.AM):Prop where
 h:SA X es (aOf K E m)
 len:∀env S ds S',m env S=.ok ds S'->ds.length=es.length
structure DS1 (X:Cx) (K:PySem.W.Frag) (E:XE) (st:Stmt) (m:DS.SM):Prop where h:SS X st (tsOf K E m)
structure DSs (X:Cx) (K:PySem.W.Frag) (E:XE) (st:List Stmt) (m:DS.SM):Prop where h:SSs X st (tsOf K E m)
structure DG (X:Cx) (K:PySem.W.Frag) (e:Expr) (m:DS.GM):Prop where h:SG X e (gOf K m)
structure DGs (X:Cx) (K:PySem.W.Frag) (es:List Expr) (m:List DS.GM):Prop where h:SGs X es (gsOf K (DS.gAll m))
structure DI (X:Cx) (K:PySem.W.Frag) (E:XE) (tg e:Expr) (m:DS.IM):Prop where h:SI X tg e (iOf K E m)
section
variable {X:Cx}{K:PySem.W.Frag}{E:XE}{e a b c:Expr}{es:List Expr}{p pos:Pos}{m ma mb mc:DS.EM}{mt mu:DS.TM}
theorem SE.imp {t t':TE}(h:SE X e t) (k:∀σ H Q,t' σ H Q->t σ H Q):SE X e t':=⟨fun pins s σ H Q I q=>h.h pins s σ H Q I (k σ H Q q)⟩
theorem ST.imp {t t':TT}(h:ST X e t) (k:∀σ H Q,t' σ H Q->t σ H Q):ST X e t':=⟨fun pins s σ H Q I q=>h.h pins s σ H Q I (k σ H Q q)⟩
theorem SW.imp {t t':TT}(h:SW X e t) (k:∀σ H Q,t' σ H Q->t σ H Q):SW X e t':=⟨fun whole pins s σ H Q I q=>h.h whole pins s σ H Q I (k σ H Q q)⟩
theorem SIfs.imp {t t':TT}(h:SIfs X es t) (k:∀σ H Q,t' σ H Q->t σ H Q):SIfs X es t':=⟨fun pins s σ H Q I q=>h.h pins s σ H Q I (k σ H Q q)⟩
theorem SA.imp {t t':TA}(h:SA X es t) (k:∀σ H Q,t' σ H Q->t σ H Q):SA X es t':=⟨fun pos pins s σ H Q I q=>h.h pos pins s σ H Q I (k σ H Q q)⟩
theorem SS.imp {st:Stmt}{t t':TS}(h:SS X st t) (k:∀D σ H,t' D σ H->t D σ H):SS X st t':=⟨fun pins s σ H D I q=>h.h pins s σ H D I (k D σ H q)⟩
theorem SSs.imp {st:List Stmt}{t t':TS}(h:SSs X st t) (k:∀D σ H,t' D σ H->t D σ H):SSs X st t':=⟨fun pins s σ H D I q=>h.h pins s σ H D I (k D σ H q)⟩
theorem SG.imp {t t':TG}(h:SG X e t) (k:∀v σ H Q,t' v σ H Q->t v σ H Q):SG X e t':=⟨fun pins s σ H v u Q I r q=>h.h pins s σ H v u Q I r (k v σ H Q q)⟩
theorem SGs.imp {t t':TGs}(h:SGs X es t) (k:∀v σ H Q,t' v σ H Q->t v σ H Q):SGs X es t':=⟨fun pins s σ H v u Q I r q=>h.h pins s σ H v u Q I r (k v σ H Q q)⟩
theorem SI.imp {tg:Expr}{t t':TI}(h:SI X tg e t) (k:∀σ H R,t' σ H R->t σ H R):SI X tg e t':=⟨fun pins s σ H R I q=>h.h pins s σ H R I (k σ H R q)⟩
theorem ObD.rep {K:PySem.W.Frag}{J:Js}{S:Store}{H:Hp}{d:D}{o:HO}{p:Addr}(ha:AbS K J S H) (n:H p=none) (r:ObD K J H d o):Rep K J (upd H p o) d (.ref p):=by
 have r2:=r.grow (Grow.push (o:=o) n)
 have hp:=ha.out n
 cases d with
 | lst ds=>obtain⟨xs,rfl,rl⟩:=r2;exact⟨p,xs,rfl,⟨zB1,hp⟩,rl⟩
 | dct _ ks vs=>obtain⟨xs,t,rl⟩:=r2;exact⟨p,o,xs,rfl,hp,zB1,t,rl⟩
 | _=>exact False.elim r2
theorem zBk (h:DF X K E e m):DE X K E e m:=⟨h.h.imp fun σ H Q ⟨env,S,J,ha,he,q⟩=>⟨env,S,J,ha,he,q.map fun d S' J' H' _ h1 g k p o n r=>
 k J' (upd H' p o) (h1.push n) (g.trans (.push n)) (.ref p) (r.rep h1 n)⟩⟩
theorem zG9 (h:DF X K E e m):DE X K E e (DS.eNew m):=⟨h.h.imp fun σ H Q ⟨env,S,J,ha,he,q⟩=>⟨env,S,J,ha,he,q.bind.map fun d S' J' H' _ h1 g k p o n r=>
 k J' H' h1 g (J'++[p]) (upd H' p o) (h1.name n r) (.name n) (.ref p) ⟨p,by rw[<- h1.len,vQ (xi _)];simp,rfl⟩⟩⟩
theorem zA2 (i:Nat) {x:Str}(hN:X.N[i]?=some x:=by rfl) (hv:Vis X.env.scope x:=by first|exact Or.inl rfl|exact Or.inr (Or.inl rfl)|exact Or.inr (Or.inr rfl)) (hd:(x == ("__debug__":Str))=false:=by decide)
  (hcd:(x == ("__classdict__":Str))=false:=by decide):DE X K E (.Name x pos) (DS.eVar i):=⟨(pv' i hN hv hd hcd).imp fun σ H Q ⟨env,S,J,ha,he,q⟩=>by
 unfold DS.eVar at q
 cases e1:env[i]? with
 | none=>rw[e1]at q;exact False.elim q
 | some o=>
  cases o with
  | none=>rw[e1]at q;exact False.elim q
  | some d=>
   rw[e1]at q
   obtain⟨v,ev,r⟩:=he.get i d e1
   exact⟨v,ev,q J H ha .refl v r⟩⟩
theorem de_c {v:V}{d:D}(h:SE X e (tC v)) (r:∀J H,Rep K J H d v):DE X K E e (DS.eC d):=⟨h.imp fun σ H Q hz1=>by obtain⟨env,S,J,ha,he,q⟩:=hz1;exact q J H ha .refl v (r J H)⟩
theorem zA3 {i:Int}{j:_}:DE X K E (.Constant (.int i) j pos) (DS.eC (.int i)):=de_c zVn fun _ _=>rfl
theorem zGb {i:Bool}{j:_}:DE X K E (.Constant (.bool i) j pos) (DS.eC (.bl i)):=de_c zYv fun _ _=>rfl
theorem zCl {i:Str}{j:_}:DE X K E (.Constant (.str i) j pos) (DS.eC (.str i)):=de_c zOx fun _ _=>rfl
theorem yBp {x:Str}{T:String}{u:Value}(hg:Gl X x) (hm:X.mg x=none) (hv:bootBuiltins x=some u) (r:RelV (.ty T) u) (hn:x≠"__name__":=by decide) (hd:(x == ("__debug__":Str))=false:=by decide):DE X K E (.Name x pos) (DS.eC (.ty T)):=de_c (zS8 hg hm hv r hn hd) fun _ _=>rfl
theorem zL9 {r:R2}{g:Store->D->D->Option D}(hr:∀x y H Q,r2Of K g x y H Q->r x y H Q):∀σ H Q,tOf K E (DS.eOp g ma mb) σ H Q->tOp r (tOf K E ma) (tOf K E mb) σ H Q:=fun σ H Q ⟨env,S,J,ha,he,q⟩=>
 ⟨env,S,J,ha,he,q.bind.imp fun d1 S1 J1 H1 _ a1 g1 q1 x rx=>⟨env,S1,J1,a1,he.grow g1,q1.bind.imp fun d2 S2 J2 H2 _ a2 g2 q2 y ry=>by
  obtain⟨d,e,k⟩:=q2.lift
  exact hr _ _ _ _ ⟨J2,S2,d1,d2,d,a2,Rep.grow g2 _ _ rx,ry,e,fun v H' h1 h2 h3=>k J2 H' h1 h2 v h3⟩⟩⟩
theorem zAf {op:Operator}{g:Store->D->D->Option D}(ho:OpR X (binaryOp op) (r2Of K g)) (ha:DE X K E a ma) (hb:DE X K E b mb):DE X K E (.BinOp a op b pos) (DS.eOp g ma mb):=⟨(zYo ho ha.h hb.h).imp (zL9 fun _ _ _ _ h=>h)⟩
theorem zDd {op:CmpOp}{g:Store->D->D->Option D}(ho:OpR X (compareOp op) (r2Of K g)) (ha:DE X K E a ma) (hb:DE X K E b mb) (hm:behindInMarks op b=false):DE X K E (.Compare a [op] [b] pos) (DS.eOp g ma mb):=⟨(zS6 ho ha.h hb.h hm).imp (zL9 fun _ _ _ _ h=>h)⟩
theorem zAl {g:Store->D->D->Option D}(hr:IxR X (r2Of K g)) (ha:DE X K E a ma) (hb:DE X K E b mb) (h:nsl b=true:=by rfl):DE X K E (.Subscript a b pos) (DS.eOp g ma mb):=⟨(qix' hr ha.h hb.h h).imp (zL9 fun _ _ _ _ h=>h)⟩
theorem zQ7 {op:UnaryOp}{g:Store->D->Option D}(ho:UnR X (unaryOp op) (r1Of K g)) (ha:DE X K E a ma):DE X K E (.UnaryOp op a pos) (DS.eUn g ma):=⟨(zYl ho ha.h).imp fun σ H Q ⟨env,S,J,h,he,q⟩=>
 ⟨env,S,J,h,he,q.bind.imp fun d1 S1 J1 H1 _ a1 g1 q1 x rx=>by
  obtain⟨d,e,k⟩:=q1.lift
  exact⟨J1,S1,d1,d,a1,rx,e,fun v H' h1 h2 h3=>k J1 H' h1 h2 v h3⟩⟩⟩
theorem zA4:DA X K E [] DS.aNil:=⟨pa_nil'.imp fun σ H Q hz2=>by obtain⟨env,S,J,ha,he,q⟩:=hz2;exact q J H ha .refl [] rfl,fun _ _ _ _ e=>by cases e;rfl⟩
theorem zA1 {am:DS.AM}(ha:DE X K E e m) (hr:DA X K E es am) (h:nst e=true:=by rfl):DA X K E (e::es) (DS.zA0 m am):=by
 refine⟨(qa' ha.h hr.h h).imp fun σ H Q ⟨env,S,J,h,he,q⟩=>⟨env,S,J,h,he,q.bind.imp fun d1 S1 J1 H1 _ a1 g1 q1 x rx=>⟨env,S1,J1,a1,he.grow g1,q1.bind.imp fun d2 S2 J2 H2 _ a2 g2 q2 ys ry=>
  q2 J2 H2 a2 .refl (x::ys) ⟨x,ys,rfl,Rep.grow g2 _ _ rx,ry⟩⟩⟩,fun env S ds S' e1=>?_⟩
 unfold DS.zA0 at e1
 cases e2:m env S with
 | ok d S1=>
  rw[e2,Rs.bind_ok]at e1
  cases e3:am env S1 with
  | ok dr S2=>rw[e3,Rs.bind_ok]at e1;cases e1;simp[hr.len _ _ _ _ e3]
  | _=>rw[e3]at e1;cases e1
 | _=>rw[e2]at e1;cases e1
theorem z1000 {n:Nat}(h:n<=1000):n<=sizeLine:=xk h (by decide)
theorem zAn {am:DS.AM}{k:Nat}(h:DA X K E es am) (hz:es.length<=1000:=by decide):DE X K E (.Tuple es k pos) (DS.eTup am):=⟨(zVk h.h).imp fun σ H Q ⟨env,S,J,ha,he,q⟩=>
 ⟨env,S,J,ha,he,q.bind.imp fun ds S1 J1 H1 e1 a1 g1 q1 xs rx=>⟨by rw[<- rx.length,h.len _ _ _ _ e1];exact z1000 hz,fun p n=>
  q1 J1 (upd H1 p (.tup xs)) (a1.push n) (.push n) (.ref p) ⟨p,xs,rfl,⟨zB1,a1.out n⟩,RepL.grow (.push n) _ _ rx⟩⟩⟩⟩
theorem zCt {am:DS.AM}(h:DA X K E es am) (hz:es.length<=1000:=by decide):DF X K E (.List es pos) (DS.eLst am):=⟨(zVm h.h).imp fun σ H Q ⟨env,S,J,ha,he,q⟩=>
 ⟨env,S,J,ha,he,q.bind.imp fun ds S1 J1 H1 e1 a1 g1 q1 xs rx=>⟨by rw[<- rx.length,h.len _ _ _ _ e1];exact z1000 hz,fun p n=>
  q1 J1 H1 a1 .refl p (.lst xs) n ⟨xs,rfl,rx⟩⟩⟩⟩
theorem yA0 {r:List V->Hp->VK->Prop}{am:DS.AM}{g:Store->List D->Option D}(hr:∀xs H Q,cOf K g xs H Q->r xs H Q):∀σ H Q,tOf K E (DS.eCB g am) σ H Q->tCB r (aOf K E am) σ H Q:=fun σ H Q ⟨env,S,J,ha,he,q⟩=>
 ⟨env,S,J,ha,he,q.bind.imp fun ds S1 J1 H1 _ a1 g1 q1 xs rx=>by
  obtain⟨d,e,k⟩:=q1.lift
  exact hr _ _ _ ⟨J1,S1,ds,d,a1,rx,e,fun v H' h1 h2 h3=>k J1 H' h1 h2 v h3⟩⟩
theorem zUd {r:List V->Hp->VK->Prop}{am:DS.AM}{g:Store->List D->Option D}(hr:∀xs H Q,cOfF K g xs H Q->r xs H Q):∀σ H Q,tOfF K E (DS.eCB g am) σ H Q->tCB r (aOf K E am) σ H Q:=fun σ H Q ⟨env,S,J,ha,he,q⟩=>
 ⟨env,S,J,ha,he,q.bind.imp fun ds S1 J1 H1 _ a1 g1 q1 xs rx=>by
  obtain⟨d,e,k⟩:=q1.lift
  exact hr _ _ _ ⟨J1,S1,ds,d,a1,rx,e,fun p o H' h1 h2 h3=>k J1 H' h1 h2 p o h3⟩⟩
theorem zBl {x:Str}{id:String}{am:DS.AM}{g:Store->List D->Option D}(hc:zBs X (.builtin id) (cOf K g)) (hg:Gl X x) (hm:X.mg x=none) (hv:bootBuiltins x=some (.builtin id)) (ha:DA X K E (e::es) am) (hn:x≠"__name__":=by decide) (hdb:(x == ("__debug__":Str))=false:=by decide)
  (h:(e::es).all nst=true:=by rfl):DE X K E (.Call (.Name x p) (e::es) [] pos) (DS.eCB g am):=⟨(zOk hc hg hm hv ha.h hn hdb h).imp (yA0 fun _ _ _ h=>h)⟩
theorem zGa {x:Str}{T:String}{am:DS.AM}{g:Store->List D->Option D}(hc:zBs X (.type T) (cOf K g)) (hg:Gl X x) (hm:X.mg x=none) (hv:bootBuiltins x=some (.type T)) (ha:DA X K E (e::es) am) (hn:x≠"__name__":=by decide) (hdb:(x == ("__debug__":Str))=false:=by decide)
  (h:(e::es).all nst=true:=by rfl):DE X K E (.Call (.Name x p) (e::es) [] pos) (DS.eCB g am):=⟨(zOj hc hg hm hv ha.h hn hdb h).imp (yA0 fun _ _ _ h=>h)⟩
theorem yBo {x:Str}{id:String}{am:DS.AM}{g:Store->List D->Option D}(hc:zBs X (.builtin id) (cOfF K g)) (hg:Gl X x) (hm:X.mg x=none) (hv:bootBuiltins x=some (.builtin id)) (ha:DA X K E (e::es) am) (hn:x≠"__name__":=by decide) (hdb:(x == ("__debug__":Str))=false:=by decide)
  (h:(e::es).all nst=true:=by rfl):DF X K E (.Call (.Name x p) (e::es) [] pos) (DS.eCB g am):=⟨(zOk hc hg hm hv ha.h hn hdb h).imp (zUd fun _ _ _ h=>h)⟩
theorem yBn {x:Str}{T:String}{am:DS.AM}{g:Store->List D->Option D}(hc:zBs X (.type T) (cOfF K g)) (hg:Gl X x) (hm:X.mg x=none) (hv:bootBuiltins x=some (.type T)) (ha:DA X K E (e::es) am) (hn:x≠"__name__":=by decide) (hdb:(x == ("__debug__":Str))=false:=by decide)
  (h:(e::es).all nst=true:=by rfl):DF X K E (.Call (.Name x p) (e::es) [] pos) (DS.eCB g am):=⟨(zOj hc hg hm hv ha.h hn hdb h).imp (zUd fun _ _ _ h=>h)⟩
theorem zAe {x:Str}{k:Nat}{ps:List Str}{F:DS.Fn}{am:DS.AM}(C:Cal X.prog X.w X.K X.mg X.base x k ps (spOf K E F)) (hr:Room k X.A) (hg:Gl X x) (ha:DA X K E (e::es) am) (hdb:(x == ("__debug__":Str))=false:=by decide)
  (h:(e::es).all nst=true:=by rfl):DE X K E (.Call (.Name x p) (e::es) [] pos) (DS.zAg F am):=⟨(qcal' C hr hg ha.h hdb h).imp fun σ H Q ⟨env,S,J,h,he,q⟩=>
 ⟨env,S,J,h,he,q.bind.imp fun ds S1 J1 H1 _ a1 g1 q1 xs rx=>by
  show spOf K E F (xs++[]) H1 Q E0
  rw[v3]
  exact⟨J1,S1,ds,a1,rx,q1⟩⟩⟩
theorem zXo {J:Js}{S:Store}{H:Hp}{d:D}{v:V}{T:String}(ha:AbS K J S H) (r:Rep K J H d v) (hT:T="str"\/T="list"\/T="dict") (h:DS.tyD S d=some T):tyV K T v H:=by
 cases d with
 | str x=>obtain rfl:=r;cases h;exact rfl
 | lst ds=>obtain⟨a,xs,rfl,t,_⟩:=r;cases h;exact .inl ⟨rfl,xs,t.sq⟩
 | klst ds=>obtain⟨a,xs,rfl,t,_⟩:=r;cases h;exact .inl ⟨rfl,xs,t.sq⟩
 | dct _ ks vs=>
  obtain⟨a,o,xs,rfl,_,e,t,_⟩:=r;cases h
  refine .inr (.inr (.inl ⟨rfl,?_⟩))
  rcases t with⟨_,kvs,rfl,_⟩|⟨_,kvs,rfl,_⟩
  ·exact .inl ⟨kvs,e⟩
  ·exact .inr ⟨kvs,e⟩
 | ref n=>
  obtain⟨a,ea,rfl⟩:=r
  obtain⟨c,ec,o,eo,rc⟩:=ha.at ea
  have el:DS.look S (.ref n)=some c:=ec
  unfold DS.tyD at h
  rw[el]at h
  cases c with
  | lst ds=>cases h;obtain⟨xs,rfl,_⟩:=rc;exact .inl ⟨rfl,xs,.inl (.inl eo)⟩
  | dct _ ks vs=>
   cases h
   obtain⟨xs,t,_⟩:=rc
   refine .inr (.inr (.inl ⟨rfl,?_⟩))
   rcases t with⟨_,kvs,rfl,_⟩|⟨_,kvs,rfl,_⟩
   ·exact .inl ⟨kvs,eo⟩
   ·exact .inr ⟨kvs,eo⟩
  | _=>exact False.elim rc
 | _=>first|(cases h;rcases hT with z|z|z <;> exact absurd z (by decide))|cases h
theorem zZ6 {T:String}{r:V->List V->Hp->VK->Prop}{am:DS.AM}{g:Store->D->List D->Option (D × Store)}(hT:T="str"\/T="list"\/T="dict") (hr:∀x xs H Q,mOf K g x xs H Q->r x xs H Q):∀σ H Q,tOf K E (DS.eMt T g ma am) σ H Q->tBM K T r (tOf K E ma) (aOf K E am) σ H Q:=fun σ H Q ⟨env,S,J,ha,he,q⟩=>
 ⟨env,S,J,ha,he,q.bind.imp fun d1 S1 J1 H1 _ a1 g1 q1 x rx=>by
  by_cases hty:DS.tyD S1 d1=some T
  ·rw[xf hty]at q1
   refine⟨zXo a1 rx hT hty,env,S1,J1,a1,he.grow g1,q1.bind.imp fun ds S2 J2 H2 _ a2 g2 q2 xs rs=>?_⟩
   cases e:g S2 d1 ds with
   | none=>rw[e]at q2;exact False.elim q2
   | some w=>
    rw[e]at q2
    exact hr _ _ _ _ ⟨J2,S2,d1,ds,w.1,w.2,a2,Rep.grow g2 _ _ rx,rs,e,fun v H' h1 h2 h3=>q2 J2 H' h1 h2 v h3⟩
  ·rw[xg hty]at q1;exact False.elim q1⟩
theorem zNf {T name id:_}{o:Expr}{apos cpos:Pos}{g:Store->D->List D->Option (D × Store)}{mo:DS.EM}{am:DS.AM}(pa:PlainAttrs T) (slot:Slot T name id) (hty:typeOf (.builtin id)=pure (.type "method_descriptor")) (hm:MtR X id (mOf K g))
  (hT:T="str"\/T="list"\/T="dict") (ho:DE X K E o mo) (ha:DA X K E (e::es) am) (h:nba o=true:=by rfl) (hs:(e::es).all nst=true:=by rfl)
  (hlen:decide ((e::es).length+0+0<30)=true:=by rfl) (hline:(apos.endLine == cpos.line)=true:=by rfl) (hK:X.K=K:=by rfl):DE X K E (.Call (.Attribute o name apos) (e::es) [] cpos) (DS.eMt T g mo am):=by
 subst hK
 exact⟨(zYu pa slot hty hm ho.h ha.h h hs hlen hline).imp (zZ6 hT fun _ _ _ _ h=>h)⟩
theorem zZx {T name id:_}{o:Expr}{apos cpos:Pos}{g:Store->D->List D->Option (D × Store)}{mo:DS.EM}(pa:PlainAttrs T) (slot:Slot T name id) (hty:typeOf (.builtin id)=pure (.type "method_descriptor")) (hm:MtR X id (mOf K g))
  (hT:T="str"\/T="list"\/T="dict") (ho:DE X K E o mo) (h:nba o=true:=by rfl) (hline:(apos.endLine == cpos.line)=true:=by rfl) (hK:X.K=K:=by rfl):DE X K E (.Call (.Attribute o name apos) [] [] cpos) (DS.eMt T g mo DS.aNil):=by
 subst hK
 refine⟨(qbm0' pa slot hty hm ho.h h hline).imp fun σ H Q h=>?_⟩
 obtain⟨env,S,J,ha,he,q⟩:=zZ6 hT (fun _ _ _ _ h=>h) σ H Q h
 refine⟨env,S,J,ha,he,q.imp fun d1 S1 J1 H1 _ a1 g1 q1 x rx=>?_⟩
 obtain⟨ht,env',S',J',ha',he',q'⟩:=q1 x rx
 exact⟨ht,q' J' H1 ha' .refl [] rfl⟩
noncomputable def poOf (K:PySem.W.Frag) (E:XE) (m:DS.Env->Store->Rs (Option Int)):TO:=fun σ H Q=>∃env S J,AbS K J S H/\RepE K J H env σ/\Post K E J H (m env S) (fun oi _ _ H'=>Q oi H')
structure DO (X:Cx) (K:PySem.W.Frag) (E:XE) (e:Option Expr) (m:DS.Env->Store->Rs (Option Int)):Prop where h:SO X e (poOf K E m)
theorem SO.imp {o:Option Expr}{t t':TO}(h:SO X o t) (k:∀σ H Q,t' σ H Q->t σ H Q):SO X o t':=⟨fun pins s σ H Q I q=>h.h pins s σ H Q I (k σ H Q q)⟩
theorem zEb:DO X K E none DS.pNo:=⟨po_none'.imp fun σ H Q hz3=>by obtain⟨env,S,J,ha,he,q⟩:=hz3;exact q J H ha .refl⟩
theorem zBz (h:DE X K E e m):DO X K E (some e) (DS.pYes m):=⟨(zRw h.h).imp fun σ H Q ⟨env,S,J,ha,he,q⟩=>⟨env,S,J,ha,he,q.bind.imp fun d S1 J1 H1 _ a1 g1 q1 x rx=>by
 obtain⟨oi,e,k⟩:=q1.lift
 cases d with
 | int i=>cases e;obtain rfl:=rx;exact⟨i,rfl,k J1 H1 a1 .refl⟩
 | _=>cases e⟩⟩
noncomputable def slOf (K:PySem.W.Frag) (g:Store->D->Option Int->Option Int->Option D):V->Option Int->Option Int->Hp->VK->Prop:=fun x lo hi H Q=>∃J S d1 d,AbS K J S H/\Rep K J H d1 x/\g S d1 lo hi=some d/\∀v H',AbS K J S H'->Grow J H J H'->Rep K J H' d v->Q v H'
theorem zDn {g:Store->D->Option Int->Option Int->Option D}{lo hi:Option Expr}{ml mh:DS.Env->Store->Rs (Option Int)}{p2:Pos}(hr:SlR X (slOf K g)) (he:DE X K E e m) (hl:DO X K E lo ml) (hu:DO X K E hi mh):DE X K E (.Subscript e (.Slice lo hi none p2) pos) (DS.eSl g m ml mh):=
 ⟨(zOy hr he.h hl.h hu.h).imp fun σ H Q ⟨env,S,J,ha,he,q⟩=>⟨env,S,J,ha,he,q.bind.imp fun d S1 J1 H1 _ a1 g1 q1 x rx=>⟨env,S1,J1,a1,he.grow g1,q1.bind.imp fun l S2 J2 H2 _ a2 g2 q2=>
  ⟨env,S2,J2,a2,he.grow (g1.trans g2),q2.bind.imp fun h S3 J3 H3 _ a3 g3 q3=>by
   obtain⟨r,er,k⟩:=q3.lift
   exact⟨J3,S3,d,r,a3,Rep.grow (g2.trans g3) _ _ rx,er,fun v H' h1 h2 h3=>k J3 H' h1 h2 v h3⟩⟩⟩⟩⟩
theorem zR0 {J:Js}{H:Hp}{d:D}{x:V}{k:Bool}(e:DS.asB d=some k) (r:Rep K J H d x):x=.bl k:=by
 cases d with
 | bl i=>cases e;exact r
 | _=>cases e
theorem zXr:∀σ H Q,ttOf K E (DS.tB m) σ H Q->tOf K E m σ H (fun x H'=>∃k,x=.bl k/\Q k H'):=fun σ H Q ⟨env,S,J,ha,he,q⟩=>⟨env,S,J,ha,he,q.bind.imp fun d S1 J1 H1 _ a1 g1 q1 x rx=>by
 obtain⟨k,e,z⟩:=q1.lift
 exact⟨k,zR0 e rx,z J1 H1 a1 .refl⟩⟩
theorem zB3 {op:CmpOp}{g:Store->D->D->Option D}(ho:OpR X (compareOp op) (r2Of K g)) (ha:DE X K E a ma) (hb:DE X K E b mb) (hm:behindInMarks op b=false):DT X K E (.Compare a [op] [b] pos) (DS.tB (DS.eOp g ma mb)):=
 ⟨(zRp ho ha.h hb.h hm).imp fun σ H Q h=>zL9 (K:=K) (E:=E) (fun _ _ _ _ h=>h) σ H _ (zXr σ H Q h)⟩
theorem zTa {g g':Store->D->D->Option D}:∀σ H Q,tOf K E (DS.zJl g g' ma mb mc) σ H Q->zNz (r2Of K g) (r2Of K g') (tOf K E ma) (tOf K E mb) (tOf K E mc) σ H Q:=fun σ H Q ⟨env,S,J,ha,he,q⟩=>
 ⟨env,S,J,ha,he,q.bind.imp fun d1 S1 J1 H1 _ a1 g1 q1 x rx=>⟨env,S1,J1,a1,he.grow g1,q1.bind.imp fun d2 S2 J2 H2 _ a2 g2 q2 y ry=>by
  obtain⟨z,ez,k⟩:=q2.bind.lift
  refine⟨J2,S2,d1,d2,z,a2,Rep.grow g2 _ _ rx,ry,ez,fun v H3 a3 g3 rv=>?_⟩
  obtain⟨b,eb,k2⟩:=(k J2 H3 a3 g3).bind.lift
  refine⟨b,zR0 eb rv,?_⟩
  have k3:=k2 J2 H3 a3 .refl
  cases b with
  | false=>exact k3 J2 H3 a3 .refl _ rfl
  | true=>
   refine⟨env,S2,J2,a3,he.grow (g1.trans (g2.trans g3)),k3.bind.imp fun d4 S4 J4 H4 _ a4 g4 q4 w rw=>?_⟩
   obtain⟨d,e,k⟩:=q4.lift
   exact⟨J4,S4,d2,d4,d,a4,Rep.grow (g3.trans g4) _ _ ry,rw,e,fun v H' h1 h2 h3=>k J4 H' h1 h2 v h3⟩⟩⟩
theorem zT3 {op op':CmpOp}{g g':Store->D->D->Option D}(ho:OpR X (compareOp op) (r2Of K g)) (ho':OpR X (compareOp op') (r2Of K g')) (ha:DE X K E a ma) (hb:DE X K E b mb) (hc:DE X K E c mc) (hm:lastMarks [op,op'] [b,c]=false:=by with_unfolding_all rfl):
  DT X K E (.Compare a [op,op'] [b,c] pos) (DS.tB (DS.zJl g g' ma mb mc)):=⟨(zOn ho ho' ha.h hb.h hc.h hm).imp fun σ H Q h=>zTa σ H _ (zXr σ H Q h)⟩
theorem zG7 (ha:DT X K E a mt):DT X K E (.UnaryOp .Not a pos) (DS.tNot mt):=⟨(zV7 ha.h).imp fun σ H Q hz4=>by obtain⟨env,S,J,ha,he,q⟩:=hz4;exact ⟨env,S,J,ha,he,q.bind.imp fun k S1 J1 H1 _ a1 g1 q1=>q1 J1 H1 a1 .refl⟩⟩
theorem zQ2 (ha:DT X K E a mt):DW X K E (.BoolOp .And [a] pos) mt:=⟨zRm ha.h⟩
theorem zHc (ha:DT X K E a mt):DW X K E (.BoolOp .Or [a] pos) mt:=⟨zV3 ha.h⟩
theorem zU7 (ha:DT X K E a mt) (hb:DW X K E (.BoolOp .And (b::es) pos) mu):DW X K E (.BoolOp .And (a::b::es) pos) (DS.tAnd mt mu):=⟨(zV5 ha.h hb.h).imp fun σ H Q ⟨env,S,J,ha,he,q⟩=>⟨env,S,J,ha,he,q.bind.imp fun k S1 J1 H1 _ a1 g1 q1=>by
 cases k with
 | true=>exact⟨env,S1,J1,a1,he.grow g1,q1⟩
 | false=>exact q1 J1 H1 a1 .refl⟩⟩
theorem zKu (ha:DT X K E a mt) (hb:DW X K E (.BoolOp .Or (b::es) pos) mu):DW X K E (.BoolOp .Or (a::b::es) pos) (DS.tOr mt mu):=⟨(zY9 ha.h hb.h).imp fun σ H Q ⟨env,S,J,ha,he,q⟩=>⟨env,S,J,ha,he,q.bind.imp fun k S1 J1 H1 _ a1 g1 q1=>by
 cases k with
 | true=>exact q1 J1 H1 a1 .refl
 | false=>exact⟨env,S1,J1,a1,he.grow g1,q1⟩⟩⟩
theorem dt_w (h:DW X K E e mt):DT X K E e mt:=⟨zY7 h.h⟩
theorem zQa (ha:DE X K E a ma) (hb:DE X K E (.BoolOp .And (b::es) pos) mb):DE X K E (.BoolOp .And (a::b::es) pos) (DS.eAnd ma mb):=⟨(zVt ha.h hb.h).imp fun σ H Q ⟨env,S,J,ha,he,q⟩=>⟨env,S,J,ha,he,q.bind.imp fun d S1 J1 H1 _ a1 g1 q1 x rx=>by
 obtain⟨k,e,z⟩:=q1.bind.lift
 have z:=z J1 H1 a1 .refl
 refine⟨k,zR0 e rx,?_⟩
 cases k with
 | true=>exact⟨env,S1,J1,a1,he.grow g1,z⟩
 | false=>exact z J1 H1 a1 .refl _ rfl⟩⟩
theorem zQ9 {op:BoolOp}(ha:DE X K E a ma):DE X K E (.BoolOp op [a] pos) ma:=⟨zVl ha.h⟩
theorem zAz:DIf X K E [] DS.tYes:=⟨pifs_nil'.imp fun σ H Q hz5=>by obtain⟨env,S,J,ha,he,q⟩:=hz5;exact q J H ha .refl⟩
theorem zIg (h:DT X K E c mt):DIf X K E [c] mt:=⟨zOt h.h⟩
theorem zCh {J:Js}{H:Hp}{ds:List D}{xs:List V}(r:RepL K J H ds xs):decide (ds≠[])=!xs.isEmpty:=by
 cases ds with
 | nil=>cases r;simp
 | cons d ds=>obtain⟨x,t,rfl,_⟩:=r;simp
theorem zUl {J:Js}{S:Store}{H:Hp}{d:D}{v:V}{k:Bool}(ha:AbS K J S H) (r:Rep K J H d v) (h:DS.truth S d=some k):TruV K v H k:=by
 cases d with
 | non=>obtain rfl:=r;cases h;exact rfl
 | bl b=>obtain rfl:=r;cases h;exact rfl
 | int i=>
  obtain rfl:=r
  have h:=xJ h
  subst h
  show decide (i≠0)=(i != 0)
  by_cases z:i=0 <;> simp[z]
 | str x=>
  obtain rfl:=r
  have h:(if x.length<=DS.most then some (decide (x.length≠0))else none)=some k:=h
  by_cases z:x.length<=DS.most
  ·rw[xf z]at h
   have h:=xJ h
   subst h
   refine⟨z,?_⟩
   by_cases z:x.length=0 <;> simp[z]
  ·rw[xg z]at h;cases h
 | tup ds=>obtain⟨a,xs,rfl,t,rl⟩:=r;cases h;exact .inr (.inl ⟨xs,t.sq,zCh rl⟩)
 | ktup ds=>obtain⟨a,xs,rfl,t,rl⟩:=r;cases h;exact .inr (.inl ⟨xs,t.sq,zCh rl⟩)
 | klst ds=>obtain⟨a,xs,rfl,t,rl⟩:=r;cases h;exact .inl ⟨xs,t.sq,zCh rl⟩
 | lst ds=>obtain⟨a,xs,rfl,t,rl⟩:=r;cases h;exact .inl ⟨xs,t.sq,zCh rl⟩
 | ref n=>
  obtain⟨a,ea,rfl⟩:=r
  obtain⟨c,ec,o,eo,rc⟩:=ha.at ea
  have el:DS.look S (.ref n)=some c:=ec
  unfold DS.truth at h
  rw[el]at h
  cases c with
  | lst ds=>cases h;obtain⟨xs,rfl,rl⟩:=rc;exact .inl ⟨xs,.inl (.inl eo),zCh rl⟩
  | dct _ ks vs=>cases h
  | _=>exact False.elim rc
 | _=>cases h
theorem zG6 (ha:DE X K E e m) (h:ntt e=true:=by rfl) (hK:X.K=K:=by rfl):DT X K E e (DS.tTru m):=by
 subst hK
 exact⟨(qtruth' ha.h h).imp fun σ H Q ⟨env,S,J,ha,he,q⟩=>⟨env,S,J,ha,he,q.bind.imp fun d S1 J1 H1 _ a1 g1 q1 x rx=>by
  obtain⟨k,e,z⟩:=q1.lift
  exact⟨k,zUl a1 rx e,z J1 H1 a1 .refl⟩⟩⟩
theorem RepE.set {J:Js}{H:Hp}{env:DS.Env}{σ:St}{d:D}{v:V}{i:Nat}(h:RepE K J H env σ) (r:Rep K J H d v):RepE K J H (env.set i (some d)) (σ.set i (some v)):=by
 refine⟨by simp[h.len],fun j d' e=>?_⟩
 by_cases hj:i=j
 ·subst hj
  have hi:i<env.length:=by
   have:=(xH.mp e).1
   simpa using this
  rw[vF hi]at e
  cases e
  exact⟨v,vF (by rw[<- h.len];exact hi),r⟩
 ·rw[xO hj]at e
  rw[xO hj]
  exact h.get j d' e
theorem zA9 {j:Nat}{x:Str}(hN:X.N.Nodup) (hi:X.N[j]?=some x) (hx:Loc X.env.scope x) (hf:X.fn x=true\/X.env.scope.names.lookup x=some .local:=by first|exact .inl rfl|exact .inr rfl|assumption):DG X K (.Name x pos) (DS.gName j):=
 ⟨(zS2 hN hi hx hf).imp fun v σ H Q ⟨env,S,J,d,env',ha,he,r,e,k⟩=>by
  cases e
  exact k _ (he.set r)⟩
theorem zBg:DGs X K [] []:=⟨pgs_nil'.imp fun v σ H Q ⟨env,S,J,ds,env',ha,he,r,e,k⟩=>by
 cases ds with
 | nil=>cases e;cases r;exact⟨rfl,k _ he⟩
 | cons d ds=>cases e⟩
theorem zAd {tg:Expr}{ts:List Expr}{g:DS.GM}{gs:List DS.GM}(h1:DG X K tg g) (h2:DGs X K ts gs) (h:nst tg=true:=by rfl):DGs X K (tg::ts) (g::gs):=⟨(qgs' h1.h h2.h h).imp fun v σ H Q ⟨env,S,J,ds,env',ha,he,r,e,k⟩=>by
 cases ds with
 | nil=>cases e
 | cons d ds=>
  obtain⟨x,xs,rfl,rx,rl⟩:=r
  unfold DS.gAll at e
  cases e1:g S d env with
  | none=>rw[e1]at e;cases e
  | some env1=>
   rw[e1]at e
   exact⟨x,xs,rfl,env,S,J,d,env1,ha,he,rx,e1,fun σ' he'=>⟨env1,S,J,ds,env',ha,he',rl,e,k⟩⟩⟩
theorem zDw:∀{gs:List DS.GM}{S:Store}{ds:List D}{env env':DS.Env},DS.gAll gs S ds env=some env'->ds.length=gs.length
 | [],_,[],_,_,_=>rfl
 | [],_,_::_,_,_,e=>by cases e
 | _::_,_,[],_,_,e=>by cases e
 | g::gs,S,d::ds,env,env',e=>by
  unfold DS.gAll at e
  cases e1:g S d env with
  | none=>rw[e1]at e;cases e
  | some env1=>rw[e1]at e;simp[zDw e]
theorem SG.or {t u:TG}(h:SG X e t) (h':SG X e u):SG X e (fun v σ H Q=>t v σ H Q\/u v σ H Q):=⟨fun pins s σ H v w Q I r q=>by
 rcases q with q|q
 ·exact h.h pins s σ H v w Q I r q
 ·exact h'.h pins s σ H v w Q I r q⟩
theorem zC0 {ts:List Expr}{k:Nat}{gs:List DS.GM}(hc:X.calm=true) (h:DGs X K ts gs) (hn:ts.length=gs.length:=by rfl) (h1:ts.all nst=true:=by rfl) (hK:X.K=K:=by rfl):DG X K (.Tuple ts k pos) (DS.gTup gs):=by
 subst hK
 refine⟨((qtup' (n:=gs.length) hc h.h hn h1).or (qunl' (n:=gs.length) hc h.h hn h1)).imp fun v σ H Q hq1=>?_⟩
 obtain⟨env,S,J,d,env',ha,he,r,e,k⟩:=hq1
 unfold DS.gTup DS.items DS.look at e
 cases d with
 | tup ds=>obtain⟨a,xs,rfl,t,rl⟩:=r;exact .inl ⟨a,xs,rfl,t.sq,by rw[<- rl.length];exact zDw e,env,S,J,ds,env',ha,he,rl,e,k⟩
 | klst ds=>obtain⟨a,xs,rfl,t,rl⟩:=r;exact .inr ⟨a,xs,rfl,t.sq,by rw[<- rl.length];exact zDw e,env,S,J,ds,env',ha,he,rl,e,k⟩
 | ktup ds=>obtain⟨a,xs,rfl,t,rl⟩:=r;exact .inl ⟨a,xs,rfl,t.sq,by rw[<- rl.length];exact zDw e,env,S,J,ds,env',ha,he,rl,e,k⟩
 | lst ds=>obtain⟨a,xs,rfl,t,rl⟩:=r;exact .inr ⟨a,xs,rfl,t.sq,by rw[<- rl.length];exact zDw e,env,S,J,ds,env',ha,he,rl,e,k⟩
 | ref n=>
  obtain⟨a,ea,rfl⟩:=r
  obtain⟨c,ec,o,eo,rc⟩:=ha.at ea
  simp only[ec]at e
  cases c with
  | lst ds=>obtain⟨xs,rfl,rl⟩:=rc;exact .inr ⟨a,xs,rfl,.inl (.inl eo),by rw[<- rl.length];exact zDw e,env,S,J,ds,env',ha,he,rl,e,k⟩
  | dct _ ks vs=>cases e
  | _=>exact False.elim rc
 | _=>cases e
variable {st:Stmt}{sts:List Stmt}{ms mu' mv:DS.SM}
theorem zAw:DSs X K E [] DS.zAv:=⟨pss_nil'.imp fun D σ H hz6=>by obtain⟨env,S,J,ha,he,q⟩:=hz6;exact q J H σ ha .refl he⟩
theorem zAb (h:DS1 X K E st ms):DSs X K E [st] ms:=⟨zRr h.h⟩
theorem zA5 (h:DS1 X K E st ms) (k:DSs X K E sts mv):DSs X K E (st::sts) (DS.sSeq ms mv):=⟨(zOo h.h k.h).imp fun D σ H ⟨env,S,J,ha,he,q⟩=>⟨env,S,J,ha,he,by
 unfold DS.sSeq at q
 cases e:ms env S with
 | nx e1 S1=>rw[e]at q;exact fun J' H' σ' h1 g1 h2=>⟨e1,S1,J',h1,h2,PostS.grow g1 q⟩
 | _=>rw[e]at q;exact q⟩⟩
theorem zAj {j:Nat}{x:Str}{pos':Pos}(hN:X.N.Nodup) (hi:X.N[j]?=some x) (hx:Loc X.env.scope x) (he:DE X K E e m) (hf:X.fn x=true\/X.env.scope.names.lookup x=some .local:=by first|exact .inl rfl|exact .inr rfl|assumption) (h:nco e=true:=by rfl):
  DS1 X K E (.Assign [.Name x pos'] e pos) (DS.sSet j m):=⟨(qset' hN hi hx he.h hf h).imp fun D σ H hz7=>by obtain⟨env,S,J,ha,he,q⟩:=hz7;exact ⟨env,S,J,ha,he,q.then.imp fun d S1 J1 H1 _ a1 g1 q1 v rv=>q1 J1 H1 _ a1 .refl ((he.grow g1).set rv)⟩⟩
theorem zTk {g:DS.GM}:∀D σ H,tsOf K E (DS.sUnp g m) D σ H->tAsg (tOf K E m) (gOf K g) D σ H:=fun D σ H ⟨env,S,J,ha,he,q⟩=>⟨env,S,J,ha,he,q.then.imp fun d S1 J1 H1 _ a1 g1 q1 v rv=>by
 cases e1:g S1 d env with
 | none=>rw[e1]at q1;exact False.elim q1
 | some env'=>rw[e1]at q1;exact⟨env,S1,J1,d,env',a1,he.grow g1,rv,e1,fun σ' he'=>q1 J1 H1 σ' a1 .refl he'⟩⟩
theorem zG8 {ts:List Expr}{k:Nat}{tp:Pos}{g:DS.GM}(he:DE X K E e m) (hg:DG X K (.Tuple ts k tp) g) (h1:ntu e=true:=by rfl):DS1 X K E (.Assign [.Tuple ts k tp] e pos) (DS.sUnp g m):=⟨(qasgt' he.h hg.h h1).imp zTk⟩
theorem zM6 {ts:List Expr}{k:Nat}{tp:Pos}{g:DS.GM}(he:DE X K E e m) (hg:DG X K (.Tuple ts k tp) g) (hw:swappedStores [.Tuple ts k tp] e X.env=pure none:=by rfl):DS1 X K E (.Assign [.Tuple ts k tp] e pos) (DS.sUnp g m):=⟨(qasgn' he.h hg.h hw).imp zTk⟩
theorem zDx (he:DE X K E e m) (h:nco e=true:=by rfl):DS1 X K E (.Expr e pos) (DS.zE1 m):=⟨(qexpr' he.h h).imp fun D σ H hz8=>by obtain⟨env,S,J,ha,he,q⟩:=hz8;exact ⟨env,S,J,ha,he,q.then.imp fun d S1 J1 H1 _ a1 g1 q1 v rv=>q1 J1 H1 σ a1 .refl (he.grow g1)⟩⟩
theorem zAr (he:DE X K E e m):DS1 X K E (.Return (some e) pos) (DS.sRet m):=⟨(zVc he.h).imp fun D σ H hz9=>by obtain⟨env,S,J,ha,he,q⟩:=hz9;exact ⟨env,S,J,ha,he,q.then.imp fun d S1 J1 H1 _ a1 g1 q1 v rv=>q1 J1 H1 v a1 .refl rv⟩⟩
theorem zBc {ba bb:List Stmt}(hc:DT X K E c mt) (ha:DSs X K E ba ms) (hb:DSs X K E bb mv):DS1 X K E (.If c ba bb pos) (DS.sIf mt ms mv):=⟨(zYf hc.h ha.h hb.h).imp fun D σ H ⟨env,S,J,ha,he,q⟩=>⟨env,S,J,ha,he,q.then.imp fun k S1 J1 H1 _ a1 g1 q1=>by
 cases k with
 | true=>exact⟨env,S1,J1,a1,he.grow g1,q1⟩
 | false=>exact⟨env,S1,J1,a1,he.grow g1,q1⟩⟩⟩
theorem zFj {x y:Str}{px py pt pt2:Pos}{kt k2 i j:Nat}{am:DS.AM}(hc:X.calm=true) (hN:X.N.Nodup) (hi:X.N[i]?=some x) (hj:X.N[j]?=some y) (hij:i≠j)
  (hx:X.env.scope.names.lookup x=some .local) (hy:X.env.scope.names.lookup y=some .local) (ha:DA X K E [a,b] am)
  (hw:swappedStores [.Tuple [.Name x px,.Name y py] kt pt] (.Tuple [a,b] k2 pt2) X.env=pure (some [x,y])):
  DS1 X K E (.Assign [.Tuple [.Name x px,.Name y py] kt pt] (.Tuple [a,b] k2 pt2) pos) (DS.sPar [i,j] am):=⟨(qpar' hc hN hi hj hij hx hy ha.h hw).imp fun D σ H ⟨env,S,J,h,he,q⟩=>⟨env,S,J,h,he,q.then.imp fun ds S1 J1 H1 e1 a1 g1 q1 vs rv=>by
 have hl:=ha.len _ _ _ _ e1
 match ds,hl with
 | [d1,d2],_=>
  obtain⟨v1,r1,rfl,rv1,v2,r2,rfl,rv2,rfl⟩:=rv
  exact⟨v1,v2,rfl,q1 J1 H1 _ a1 .refl (((he.grow g1).set rv1).set rv2)⟩⟩⟩
theorem zQ4 {body:List Stmt}(hp:PassesOwn (model X.prog X.w) X.A X.env X.xe) (hc:DT X K E c mt) (hb:DSs X K E body ms):DS1 X K E (.While c body [] pos) (DS.zFq mt ms):=⟨(zOp hp hc.h hb.h).imp fun D σ H ⟨env,S,J,ha,he,q⟩=>by
 unfold DS.zFq at q
 by_cases hx:∃n,DS.zBv mt ms n env S≠.bad
 ·rw[dif_pos hx]at q
  generalize Classical.choose hx=n at q
  refine⟨fun n σ H=>∃env S J,AbS K J S H/\RepE K J H env σ/\PostS K E J H (DS.zBv mt ms n env S) D,⟨n,env,S,J,ha,he,q⟩,?_⟩
  rintro m σ H ⟨env,S,J,ha,he,q⟩
  cases m with
  | zero=>exact False.elim q
  | succ m=>
   refine⟨env,S,J,ha,he,(PostS.then (r:=mt env S) (by unfold DS.zBv at q;exact q)).imp fun k S1 J1 H1 _ a1 g1 q1=>?_⟩
   cases k with
   | false=>exact q1 J1 H1 σ a1 .refl (he.grow g1)
   | true=>
    rw[xf rfl]at q1 ⊢
    refine⟨fun σ H=>∃env S J,AbS K J S H/\RepE K J H env σ/\PostS K E J H (DS.zBv mt ms m env S) D,fun σ' H' w=>⟨m,Nat.lt_succ_self m,w⟩,env,S1,J1,a1,he.grow g1,?_⟩
    cases e:ms env S1 with
    | nx e1 S2=>rw[e]at q1;exact fun J' H' σ' h1 g2 h2=>⟨e1,S2,J',h1,h2,PostS.grow g2 q1⟩
    | ct e1 S2=>rw[e]at q1;exact fun J' H' σ' h1 g2 h2=>⟨e1,S2,J',h1,h2,PostS.grow g2 q1⟩
    | _=>rw[e]at q1;exact q1
 ·rw[dif_neg hx]at q;exact False.elim q⟩
theorem zM7 {α:Type}{l:List α}{i:Nat}(h:i<l.length):l.drop i=l[i]::l.drop (i+1):=List.drop_eq_getElem_cons h
theorem zC4 {tg iter:Expr}{body:List Stmt}{im:DS.IM}{g:DS.GM}(hp:PassesOwn (model X.prog X.w) X.A X.env X.xe) (hc:X.calm=true) (hi:DI X K E tg iter im) (hg:DG X K tg g) (hb:DSs X K E body ms) (h:nse iter=true:=by rfl):
  DS1 X K E (.For tg iter body [] pos) (DS.sFor im g ms):=⟨(qfor' hp hc hi.h hg.h hb.h h).imp fun D σ H ⟨env,S,J,ha,he,q⟩=>⟨env,S,J,ha,he,q.then.imp fun w S1 J1 H1 _ a1 g1 q1 I ok=>by
 refine⟨fun i m σ H=>m+i=w.its.length/\∃env S J,AbS K J S H/\Grow J1 H1 J H/\RepE K J H env σ/\PostS K E J H (DS.forL w.gd g ms (w.its.drop i) env S) D,⟨w.its.length,rfl,env,S1,J1,a1,.refl,he.grow g1,q1⟩,?_⟩
 rintro i m σ H ⟨hm,env,S,J,ha,gr,he,q⟩
 by_cases hi:i<w.its.length
 ·rw[zM7 hi]at q
  unfold DS.forL at q
  by_cases gd:DS.gOk S w.gd
  ·rw[xf gd]at q
   refine .inr ⟨ok.go i H J S ha gr gd hi,fun σ H=>(m-1)+(i+1)=w.its.length/\∃env S J,AbS K J S H/\Grow J1 H1 J H/\RepE K J H env σ/\PostS K E J H (DS.forL w.gd g ms (w.its.drop (i+1)) env S) D,fun σ' H' wq=>⟨m-1,by nofun,wq⟩,fun x H' y=>?_⟩
   obtain⟨a2,g2,rx⟩:=ok.yld i H J S x H' ha gr gd y _ (xD hi)
   cases eg:g S w.its[i] env with
   | none=>rw[eg]at q;exact False.elim q
   | some env'=>
    rw[eg]at q
    refine⟨env,S,J,w.its[i],env',a2,he.grow g2,rx,eg,fun σ2 he2=>⟨env',S,J,a2,he2,?_⟩⟩
    simp only at q
    cases e:ms env' S with
    | nx e1 S2=>rw[e]at q;exact fun J' H' σ' h1 g3 h2=>⟨by nofun,e1,S2,J',h1,gr.trans (g2.trans g3),h2,PostS.grow (g2.trans g3) q⟩
    | ct e1 S2=>rw[e]at q;exact fun J' H' σ' h1 g3 h2=>⟨by nofun,e1,S2,J',h1,gr.trans (g2.trans g3),h2,PostS.grow (g2.trans g3) q⟩
    | bk e1 S2=>rw[e]at q;exact fun J' H' σ' h1 g3 h2=>q J' H' σ' h1 (g2.trans g3) h2
    | rt e1 S2=>rw[e]at q;exact fun J' H' σ' h1 g3 h2=>q J' H' σ' h1 (g2.trans g3) h2
    | ex e1 S2=>rw[e]at q;exact fun J' H' h1 g3=>q J' H' h1 (g2.trans g3)
    | bad=>rw[e]at q;exact q
  ·rw[xg gd]at q;exact False.elim q
 ·have e0:w.its.drop i=[]:=List.drop_eq_nil_of_le (by nofun)
  rw[e0]at q
  unfold DS.forL at q
  by_cases gd:DS.gOk S w.gd
  ·rw[xf gd]at q
   exact .inl ⟨ok.stop i H J S ha gr gd (by nofun),q J H σ ha .refl he⟩
  ·rw[xg gd]at q;exact False.elim q⟩⟩
theorem zNh {J:Js}{H:Hp}{env:DS.Env}{σ:St}{own:List Str}{ix:List Nat}(he:RepE K J H env σ):RepE K J H (DS.compEnv own.length ix env) (zE5 own ix σ):=by
 refine⟨by simp[DS.compEnv,zE5],fun i d e=>?_⟩
 unfold DS.compEnv at e
 unfold zE5
 by_cases hi:i<own.length
 ·rw[vv (by simpa using hi),List.getElem?_replicate,xf hi]at e
  cases e
 ·rw[vQ (by simpa using hi),vm]at e
  rw[vQ (by simpa using hi),vm]
  simp only[ug,xp]at e ⊢
  cases ej:ix[i-own.length]? with
  | none=>rw[ej]at e;cases e
  | some j=>
   rw[ej]at e
   simp only[vL,ya]at e ⊢
   cases en:env[j]? with
   | none=>rw[en]at e;cases e
   | some o=>
    rw[en]at e
    obtain⟨v,ev,r⟩:=he.get j d (by rw[en];exact congrArg some e)
    exact⟨v,by rw[ev];rfl,r⟩
theorem zM9 {own:List Str}{ix:List Nat}{im:DS.IM}{g:DS.GM}:∀σ H Q,tOfF K E (DS.zAh own.length ix im g mt m) σ H Q->zK7 own ix (iOf K E im) (gOf K g) (ttOf K E mt) (tOf K E m) σ H Q:=by
 refine fun σ H Q ⟨env,St,J,ha,hE,q⟩=>⟨env,St,J,ha,hE,q.bind.imp fun w S1 J1 H1 _ a1 g1 q1 I ok=>?_⟩
 refine⟨fun i k ys σ H=>k+i=w.its.length/\∃env S J ds,AbS K J S H/\Grow J1 H1 J H/\RepE K J H env σ/\RepL K J H ds ys/\Post K E J H (DS.zCw w.gd g mt m ys.length (w.its.drop i) env S) (fun vs S2 J2 H2=>∀p o,H2 p=none->ObD K J2 H2 (.lst (ds++vs)) o->Q (.ref p) (upd H2 p o)),
  ⟨w.its.length,rfl,_,S1,J1,[],a1,.refl,zNh (hE.grow g1),rfl,q1.bind.imp fun vs S2 J2 H2 _ a2 g2 q2=>q2 J2 H2 a2 .refl⟩,?_⟩
 rintro i k ys σ H ⟨hk,env,S,J,ds,ha,gr,hE,rl,q⟩
 by_cases hi:i<w.its.length
 ·rw[zM7 hi]at q
  unfold DS.zCw at q
  by_cases gd:DS.gOk S w.gd/\ys.length<DS.most
  ·rw[xf gd]at q
   refine .inr ⟨ok.go i H J S ha gr gd.1 hi,gd.2,fun ys σ H=>(k-1)+(i+1)=w.its.length/\∃env S J ds,AbS K J S H/\Grow J1 H1 J H/\RepE K J H env σ/\RepL K J H ds ys/\Post K E J H (DS.zCw w.gd g mt m ys.length (w.its.drop (i+1)) env S) (fun vs S2 J2 H2=>∀p o,H2 p=none->ObD K J2 H2 (.lst (ds++vs)) o->Q (.ref p) (upd H2 p o)),
    fun zs σ' H' wq=>⟨k-1,by nofun,wq⟩,fun x H' y=>?_⟩
   obtain⟨a2,g2,rx⟩:=ok.yld i H J S x H' ha gr gd.1 y _ (xD hi)
   cases eg:g S w.its[i] env with
   | none=>rw[eg]at q;exact False.elim q
   | some env'=>
    rw[eg]at q
    refine⟨env,S,J,w.its[i],env',a2,hE.grow g2,rx,eg,fun σ2 he2=>⟨env',S,J,a2,he2,(Post.grow g2 q).bind.imp fun b S3 J3 H3 _ a3 g3 q3=>?_⟩⟩
    cases b with
    | false=>exact⟨by nofun,env',S3,J3,ds,a3,gr.trans (g2.trans g3),he2.grow g3,RepL.grow (g2.trans g3) _ _ rl,q3⟩
    | true=>
     rw[xf rfl]at q3 ⊢
     refine⟨env',S3,J3,a3,he2.grow g3,q3.bind.imp fun d4 S4 J4 H4 _ a4 g4 q4 v rv=>?_⟩
     have g24:=g2.trans (g3.trans g4)
     refine⟨by nofun,env',S4,J4,ds++[d4],a4,gr.trans g24,he2.grow (g3.trans g4),(RepL.grow g24 _ _ rl).snoc rv,?_⟩
     rw[show(ys++[v]).length=ys.length+1 by simp]
     refine q4.bind.imp fun vs S5 J5 H5 _ a5 g5 q5=>?_
     have:=q5 J5 H5 a5 .refl
     rw[List.append_assoc]
     exact this
  ·rw[xg gd]at q;exact False.elim q
 ·have e0:w.its.drop i=[]:=List.drop_eq_nil_of_le (by nofun)
  rw[e0]at q
  unfold DS.zCw at q
  by_cases gd:DS.gOk S w.gd
  ·rw[xf gd]at q
   have q2:∀(p:Addr) (o:HO),H p=none->ObD K J H (.lst (ds++[])) o->Q (.ref p) (upd H p o):=q J H ha .refl
   rw[v3]at q2
   exact .inl ⟨ok.stop i H J S ha gr gd (by nofun),fun p n=>q2 p (.lst ys) n ⟨ys,rfl,rl⟩⟩
  ·rw[xg gd]at q;exact False.elim q
theorem of_imp:∀σ H Q,tOf K E m σ H Q->tOfF K E m σ H Q:=fun σ H Q hz0=>by obtain⟨env,S,J,ha,he,q⟩:=hz0;exact ⟨env,S,J,ha,he,q.map fun d S' J' H' _ h1 g k p o n r=>k J' (upd H' p o) (h1.push n) (g.trans (.push n)) (.ref p) (r.rep h1 n)⟩
theorem zUv {j:Nat}:∀D σ H,tsOf K E (DS.sSet j m) D σ H->tOf K E m σ H (fun x H1=>gName j x σ H1 D.nx):=fun D σ H hz1=>by obtain⟨env,S,J,ha,he,q⟩:=hz1;exact ⟨env,S,J,ha,he,q.then.imp fun d S1 J1 H1 _ a1 g1 q1 v rv=>q1 J1 H1 _ a1 .refl ((he.grow g1).set rv)⟩
theorem zB0 {own fre:List Str}{ix:List Nat}{n:Nat}{scope:Scope}{tg elt iter:Expr}{ifs:List Expr}{im:DS.IM}{g:DS.GM}(hc:X.calm=true) (S:CompScope X own fre ix scope) (hi:DI X K E tg iter im)
  (hg:∀cl C s H fp,DG (zAy X (own++fre) scope cl C s H fp) K tg g) (ht:∀cl C s H fp,DIf (zAy X (own++fre) scope cl C s H fp) K E ifs mt) (he:∀cl C s H fp,DE (zAy X (own++fre) scope cl C s H fp) K E elt m)
  (hn:own.length=n:=by rfl) (h:nse iter=true:=by rfl):DF X K E (.ListComp elt [⟨tg,iter,ifs,0⟩] scope pos) (DS.zAh n ix im g mt m):=by
 subst hn
 exact⟨(qlcomp' hc S hi.h (fun _ _ _ _ _=>(hg _ _ _ _ _).h) (fun _ _ _ _ _=>(ht _ _ _ _ _).h) (fun _ _ _ _ _=>(he _ _ _ _ _).h) h).imp zM9⟩
theorem zFi {own fre:List Str}{ix:List Nat}{n:Nat}{scope:Scope}{j:Nat}{x:Str}{cpos pos':Pos}{tg elt iter:Expr}{ifs:List Expr}{im:DS.IM}{g:DS.GM}(hN:X.N.Nodup) (hix:X.N[j]?=some x) (hx:Loc X.env.scope x)
  (hc:X.calm=true) (S:CompScope X own fre ix scope) (hi:DI X K E tg iter im)
  (hg:∀cl C s H fp,DG (zAy X (own++fre) scope cl C s H fp) K tg g) (ht:∀cl C s H fp,DIf (zAy X (own++fre) scope cl C s H fp) K E ifs mt) (he:∀cl C s H fp,DE (zAy X (own++fre) scope cl C s H fp) K E elt m)
  (hsw:swapsWith (.ListComp elt [⟨tg,iter,ifs,0⟩] scope cpos) (some (.Name x pos')) pos.line X.env=pure true:=by rfl) (h:nse iter=true:=by rfl) (hf:X.fn x=true\/X.env.scope.names.lookup x=some .local:=by first|exact .inl rfl|exact .inr rfl|assumption) (hn:own.length=n:=by rfl):
  DS1 X K E (.Assign [.Name x pos'] (.ListComp elt [⟨tg,iter,ifs,0⟩] scope cpos) pos) (DS.sSet j (DS.zAh n ix im g mt m)):=by
 subst hn
 exact⟨(qsetc' hN hix hx hc S hi.h (fun _ _ _ _ _=>(hg _ _ _ _ _).h) (fun _ _ _ _ _=>(ht _ _ _ _ _).h) (fun _ _ _ _ _=>(he _ _ _ _ _).h) hsw h hf).imp fun D σ H h=>zM9 σ H _ (of_imp σ H _ (zUv D σ H h))⟩
end
section
variable {P:Program}{w:World}{K:PySem.W.Frag}{mg:Str->Option Value}{base:Heap}
theorem zJt {E:XE}{J:Js}{H:Hp}{np nl:Nat}{b:DS.SM}{ds:List D}{S:Store}{P:D->Store->Js->Hp->Prop}(h:Post K E J H (DS.zBp np nl b ds S) P):ds.length=np:=by
 unfold DS.zBp at h
 by_cases e:ds.length=np
 ·exact e
 ·rw[xg e]at h;exact False.elim h
theorem zLc {J:Js}{H:Hp}{ds:List D}{vs:List V}{N:List Str}(r:RepL K J H ds vs):RepE K J H (ds.map some++List.replicate (N.length-ds.length) none) (start N vs):=by
 refine⟨by simp[start,r.length],fun i d e=>?_⟩
 unfold start
 by_cases hi:i<ds.length
 ·rw[vv (by simpa using hi),vm]at e
  rw[vv (by simpa[<- r.length]using hi),vm]
  cases ed:ds[i]? with
  | none=>rw[ed]at e;cases e
  | some d'=>
   rw[ed]at e;cases e
   obtain⟨x,ex,rx⟩:=r.get ed
   exact⟨x,by rw[ex];rfl,rx⟩
 ·rw[vQ (by simpa using hi),List.getElem?_replicate]at e
  split at e <;> cases e
theorem zX8 {J:Js}{H:Hp}{np:Nat}{N:List Str}{b:DS.SM}{ds:List D}{vs:List V}{S:Store}{Q:VK}(ha:AbS K J S H) (r:RepL K J H ds vs)
  (h:Post K XE0 J H (DS.zBp np N.length b ds S) (fun d _ J' H'=>∀v,Rep K J' H' d v->Q v H')):tsOf K XE0 b { nx:=fun _ H'=>Q .non H',rt:=Q } (start N vs) H:=by
 have hl:=zJt h
 unfold DS.zBp at h
 rw[xf hl,<- hl]at h
 refine⟨_,S,J,ha,zLc r,?_⟩
 have fin:∀d S' J' H' v,AbS K J' S' H'->Grow J H J' H'->Rep K J' H' d v->Post K XE0 J H (DS.fin S d S') (fun d _ J' H'=>∀v,Rep K J' H' d v->Q v H')->Q v H':=fun d S' J' H' v a1 g1 r1 q=>by
  cases e:DS.fin S d S' with
  | ok d2 S2=>
   obtain⟨J2,a2,g2,r2⟩:=zZs ha g1 a1 r1 e
   rw[e]at q
   exact q J2 H' a2 g2 v r2
  | ex x S2=>rw[e]at q;exact False.elim (q J' H' (by
    exfalso
    unfold DS.fin at e
    split at e <;> try cases e
    split at e <;> try cases e
    split at e <;> try cases e
    split at e <;> try cases e
    split at e <;> cases e) g1)
  | bad=>rw[e]at q;exact False.elim q
 cases e:b (ds.map some++List.replicate (N.length-ds.length) none) S with
 | nx e1 S1=>rw[e]at h;exact fun J' H' σ h1 g1 _=>fin .non S1 J' H' .non h1 g1 rfl h
 | rt d S1=>rw[e]at h;exact fun J' H' v h1 g1 r1=>fin d S1 J' H' v h1 g1 r1 h
 | bk e1 S1=>rw[e]at h;exact False.elim h
 | ct e1 S1=>rw[e]at h;exact False.elim h
 | ex x S1=>rw[e]at h;exact h
 | bad=>rw[e]at h;exact False.elim h
theorem fn_d {k:Nat}{x qual:Str}{st:Stmt}{f:Addr}{fd:FuncData}{N ps:List Str}{np nl:Nat}{b:DS.SM}(F:Fun K x qual st f fd) (Sc:zB6 N ps (zA8 st)) (hnp:ps.length=np) (hnl:N.length=nl)
  (hb:∀(cdv:Value) (A:Around) (outer:List PySem.Env) (s:Shared) (H:Hp) (E:XK),Room k (A.deeper (envOfC qual (zA8 st) s.heap.objs.size f cdv))->DSs (cxOf CX0 P w K mg base N qual (zA8 st) f cdv A outer s H E).nox K XE0 (zDa st) b):
  FnOk P w K mg base CX0 (k+1) f fd ps (spOf K XE0 (DS.zBp np nl b)):=by
 subst hnp hnl
 refine F.ok (k:=k) Sc (fun vs H Q E h=>?_) (fun cdv A outer s H vs Q E hr h=>?_)
 ·obtain⟨J,S,ds,ha,r,q⟩:=h
  rw[<- r.length];exact zJt q
 ·obtain⟨J,S,ds,ha,r,q⟩:=h
  exact⟨_,(hb cdv A outer s H E hr).h.h,zX8 ha r q⟩
theorem zTd {J:Js}{H:Hp}{np:Nat}{N:List Str}{b:DS.SM}{ds:List D}{vs:List V}{S:Store}{Q:VK}(hl:ds.length=np) (ha:AbS K J S H) (r:RepL K J H ds vs)
  (h:Post K XE0 J H (DS.zIk np N.length b ds S) (fun d _ J' H'=>∀v,Rep K J' H' d v->Q v H')):tsOf K XE0 b { nx:=fun _ H'=>Q .non H',rt:=Q } (start N vs) H:=by
 unfold DS.zIk at h
 rw[xf hl,<- hl]at h
 refine⟨_,S,J,ha,zLc r,?_⟩
 cases e:b (ds.map some++List.replicate (N.length-ds.length) none) S with
 | nx e1 S1=>rw[e]at h;exact fun J' H' σ h1 g1 _=>h J' H' h1 g1 .non rfl
 | rt d S1=>rw[e]at h;exact fun J' H' v h1 g1 r1=>h J' H' h1 g1 v r1
 | bk e1 S1=>rw[e]at h;exact False.elim h
 | ct e1 S1=>rw[e]at h;exact False.elim h
 | ex x S1=>rw[e]at h;exact h
 | bad=>rw[e]at h;exact False.elim h
theorem fn_r {k:Nat}{x qual:Str}{st:Stmt}{f:Addr}{fd:FuncData}{N ps:List Str}{np nl:Nat}{b:DS.SM}(F:Fun K x qual st f fd) (Sc:zB6 N ps (zA8 st)) (hnp:ps.length=np) (hnl:N.length=nl)
  (hb:∀(cdv:Value) (A:Around) (outer:List PySem.Env) (s:Shared) (H:Hp) (E:XK),Room k (A.deeper (envOfC qual (zA8 st) s.heap.objs.size f cdv))->DSs (cxOf CX0 P w K mg base N qual (zA8 st) f cdv A outer s H E).nox K XE0 (zDa st) b):
  FnOk P w K mg base CX0 (k+1) f fd ps (spOf K XE0 (DS.zIk np nl b)):=by
 subst hnp hnl
 have cl:∀{J:Js}{H:Hp}{ds:List D}{S:Store}{P:D->Store->Js->Hp->Prop},Post K XE0 J H (DS.zIk ps.length N.length b ds S) P->ds.length=ps.length:=fun {J H ds S P} h=>by
  unfold DS.zIk at h
  by_cases e:ds.length=ps.length
  ·exact e
  ·rw[xg e]at h;exact False.elim h
 refine F.ok (k:=k) Sc (fun vs H Q E h=>?_) (fun cdv A outer s H vs Q E hr h=>?_)
 ·obtain⟨J,S,ds,ha,r,q⟩:=h
  rw[<- r.length];exact cl q
 ·obtain⟨J,S,ds,ha,r,q⟩:=h
  exact⟨_,(hb cdv A outer s H E hr).h.h,zTd (cl q) ha r q⟩
end
end L2
namespace DS
open PySem (Str)
noncomputable section
open Classical
noncomputable def big:Nat:=2 ^ 5000
noncomputable def sm (x:Int):Prop:=x.natAbs<big
theorem zY0 {x:Int}(h1:-(2 ^ 200)<x) (h2:x<2 ^ 200):sm x:=by
 have h:(2:Nat) ^ 200<=big:=yu (by decide) (by decide)
 have e:((2 ^ 200:Nat):Int)=2 ^ 200:=by norm_cast
 unfold sm
 lia
noncomputable def addD (S:Store) (x y:D):Option D:=match x,y with
 | .int a,.int b=>some (.int (a+b))
 | .str a,.str b=>if a.length+b.length<=most then some (.str (a++b))else none
 | .tup l,.tup m=>if l≠[]/\l.length+m.length<=most then some (.tup (l++m))else none
 | x,y=>match litems S x,litems S y with
  | some l,some m=>if l.length+m.length<=most then some (.lst (l++m))else none
  | _,_=>none
noncomputable def catD (S:Store) (x y:D):Option D:=match litems S x,litems S y with
 | some l,some m=>if l.length+m.length<=most then some (.lst (l++m))else none
 | _,_=>none
noncomputable def subD (_:Store) (x y:D):Option D:=match x,y with
 | .int a,.int b=>some (.int (a-b))
 | _,_=>none
noncomputable def mulD (S:Store) (x y:D):Option D:=match x,y with
 | .int a,.int b=>if sm a/\sm b then some (.int (a*b))else none
 | _,_=>none
noncomputable def zPx (_:Store) (x y:D):Option D:=match x,y with
 | .int a,.int b=>if b≠0/\sm b then some (.int (a.fdiv b))else none
 | _,_=>none
noncomputable def modD (_:Store) (x y:D):Option D:=match x,y with
 | .int a,.int b=>if 0<b then some (.int (a % b))else none
 | _,_=>none
noncomputable def powD (_:Store) (x y:D):Option D:=match x,y with
 | .int a,.int b=>if 0<=b/\b<=1000000/\a.natAbs<2 ^ 64 then some (.int (a ^ b.toNat))else none
 | _,_=>none
noncomputable def negD (_:Store) (x:D):Option D:=match x with
 | .int a=>some (.int (-a))
 | _=>none
noncomputable def iLt (p:Int->Int->Bool) (q:List Nat->List Nat->Bool) (x y:D):Option D:=match x,y with
 | .int a,.int b=>some (.bl (p a b))
 | .str a,.str b=>some (.bl (q a.cps.toList b.cps.toList))
 | _,_=>none
noncomputable def leD (_:Store) (x y:D):Option D:=iLt (fun a b=>decide (a<=b)) (fun a b=>!decide (b<a)) x y
noncomputable def gtD (_:Store) (x y:D):Option D:=match x,y with
 | .int a,.int b=>some (.bl (decide (b<a)))
 | _,_=>none
noncomputable def geD (_:Store) (x y:D):Option D:=match x,y with
 | .int a,.int b=>some (.bl (decide (b<=a)))
 | _,_=>none
noncomputable def ixN (n:Nat) (i:Int):Option Nat:=if 0<=i then(if i<n then some i.toNat else none)else if -(n:Int)<=i then some (i+n).toNat else none
noncomputable def atL {α:Type}(xs:List α) (i:Int):Option α:=(ixN xs.length i).bind fun j=>xs[j]?
noncomputable def look2 (ks vs:List D) (k:D):Option D:=match ks,vs with
 | a::r,v::t=>if a=k then some v else look2 r t k
 | _,_=>none
noncomputable def isKey:D->Bool
 | .int _=>true
 | .str _=>true
 | .tup l=>l.all fun d=>match d with
  | .int _=>true
  | .str _=>true
  | _=>false
 | _=>false
noncomputable def zCr (t:Bool) (k:D):Bool:=isKey k && (match k with
 | .tup _=>t
 | _=>!t)
noncomputable def ixD (S:Store) (x y:D):Option D:=match look S x,y with
 | some (.tup l),.int i=>atL l i
 | some (.lst l),.int i=>atL l i
 | some (.str z),.int i=>if z.length<=most then(atL z.cps.toList i).map fun c=>.str ⟨#[c]⟩else none
 | some (.dct t ks vs),k=>if zCr t k=true then look2 ks vs k else none
 | _,_=>none
noncomputable def sIx (n d:Nat):Option Int->Nat
 | none=>d
 | some v=>if v<0 then(v+(n:Int)).toNat else min v.toNat n
noncomputable def cutL {α:Type}(xs:List α) (lo hi:Option Int):List α:=(xs.drop (sIx xs.length 0 lo)).take (sIx xs.length xs.length hi-sIx xs.length 0 lo)
noncomputable def slD (S:Store) (x:D) (lo hi:Option Int):Option D:=match x with
 | .tup l=>some (.tup (cutL l lo hi))
 | .ktup l=>if sIx l.length 0 lo=0/\sIx l.length l.length hi=l.length then some (.ktup l)else some (.tup (cutL l lo hi))
 | x=>match look S x with
  | some (.lst l)=>some (.lst (cutL l lo hi))
  | _=>none
noncomputable def revL (S:Store) (x:D):Option D:=match look S x with
 | some (.lst l)=>some (.lst l.reverse)
 | _=>none
noncomputable def repl2:List D->List D->D->D->List D
 | a::r,w::t,k,v=>(if a=k then v else w)::repl2 r t k v
 | _,_,_,_=>[]
noncomputable def put2 (ks vs:List D) (k v:D):List D × List D:=if k∈ks then(ks,repl2 ks vs k v)else(ks++[k],vs++[v])
noncomputable def lenB (S:Store):List D->Option D
 | [d]=>match look S d with
  | some (.tup l)=>some (.int l.length)
  | some (.lst l)=>some (.int l.length)
  | some (.dct _ ks _)=>some (.int ks.length)
  | some (.str x)=>if x.length<=most then some (.int x.length)else none
  | _=>none
 | _=>none
noncomputable def zB4 (S:Store):List D->Option D
 | [d]=>match d with
  | .tup l=>some (.tup l)
  | .ktup l=>some (.ktup l)
  | d=>(litems S d).map D.tup
 | _=>none
noncomputable def bools:List D->Option (List Bool)
 | []=>some []
 | .bl b::r=>(bools r).map (b::·)
 | _=>none
noncomputable def allB (S:Store):List D->Option D
 | [d]=>((litems S d).bind bools).map fun bs=>.bl (bs.all id)
 | _=>none
noncomputable def anyB (S:Store):List D->Option D
 | [d]=>((litems S d).bind bools).map fun bs=>.bl (bs.any id)
 | _=>none
noncomputable def max2B (_:Store):List D->Option D
 | [.int i,.int j]=>some (.int (if j > i then j else i))
 | _=>none
noncomputable def min2B (_:Store):List D->Option D
 | [.int i,.int j]=>some (.int (if j<i then j else i))
 | _=>none
noncomputable def zC1 (S:Store) (o:D) (xs:List D):Option (D × Store):=match o,xs with
 | .ref n,[v]=>match S[n]? with
  | some (.lst l)=>if l.length<most then some (.non,S.set n (.lst (l++[v])))else none
  | _=>none
 | _,_=>none
noncomputable def popM (S:Store) (o:D) (xs:List D):Option (D × Store):=match o,xs with
 | .ref n,[]=>match S[n]? with
  | some (.lst l)=>(l[l.length-1]?).map fun v=>(v,S.set n (.lst l.dropLast))
  | _=>none
 | _,_=>none
noncomputable def zEx (S:Store) (o:D) (xs:List D):Option (D × Store):=match o,xs with
 | .ref n,[d]=>if d=.ref n then none else match S[n]?,litems S d with
  | some (.lst l),some m=>if l.length+m.length<=most then some (.non,S.set n (.lst (l++m)))else none
  | _,_=>none
 | _,_=>none
end
end DS
namespace L2
open PySem PySem.Spec PyProof.Rows
open DS (D Store Exn Rs SR)
section
variable {X:Cx}{K:PySem.W.Frag}{E:XE}{J:Js}{S:Store}{H:Hp}{d d1 d2:D}{v:V}
theorem Inv.lstR {pins:List (Addr × Obj)}{σ:St}{s:Shared}{l:Addr}{xs:List V}(I:Inv X pins σ H s) (hH:Rd H l (.lst xs)):xs.length<=sizeLine/\∃(its:List Value) (n:Nat),Vals xs its/\xs.length=its.length/\s.heap.get? l=some { cls:=.type "list",data:=.seq its.toArray n }:=by
 obtain⟨z,its,n,r,e⟩:=hH.ok I.hok
 exact⟨z,its,n,r,r.length,e⟩
theorem zCg {l:List D}(ha:AbS K J S H) (r:Rep K J H d v) (e:DS.litems S d=some l):∃a xs,v=.ref a/\Rd H a (.lst xs)/\RepL K J H l xs:=by
 cases d with
 | lst ds=>cases e;obtain⟨a,xs,rfl,t,rl⟩:=r;exact⟨a,xs,rfl,.inl t.1,rl⟩
 | ref n=>
  obtain⟨a,ea,rfl⟩:=r
  obtain⟨c,ec,o,eo,rc⟩:=ha.at ea
  unfold DS.litems DS.look at e
  simp only[ec]at e
  cases c with
  | lst ds=>cases e;obtain⟨xs,rfl,rl⟩:=rc;exact⟨a,xs,rfl,.inl eo,rl⟩
  | dct _ ks vs=>cases e
  | _=>exact False.elim rc
 | _=>cases e
theorem zFf {l:List D}(ha:AbS K J S H) (r:Rep K J H d v) (e:DS.items S d=some l):∃a xs,v=.ref a/\(SqL K H a xs\/SqT K H a xs)/\RepL K J H l xs:=by
 cases d with
 | tup ds=>cases e;obtain⟨a,xs,rfl,t,rl⟩:=r;exact⟨a,xs,rfl,.inr t.sq,rl⟩
 | ktup ds=>cases e;obtain⟨a,xs,rfl,t,rl⟩:=r;exact⟨a,xs,rfl,.inr t.sq,rl⟩
 | klst ds=>cases e;obtain⟨a,xs,rfl,t,rl⟩:=r;exact⟨a,xs,rfl,.inl t.sq,rl⟩
 | lst ds=>cases e;obtain⟨a,xs,rfl,t,rl⟩:=r;exact⟨a,xs,rfl,.inl t.sq,rl⟩
 | ref n=>
  obtain⟨a,ea,rfl⟩:=r
  obtain⟨c,ec,o,eo,rc⟩:=ha.at ea
  unfold DS.items DS.look at e
  simp only[ec]at e
  cases c with
  | lst ds=>cases e;obtain⟨xs,rfl,rl⟩:=rc;exact⟨a,xs,rfl,.inl (.inl (.inl eo)),rl⟩
  | dct _ ks vs=>cases e
  | _=>exact False.elim rc
 | _=>cases e
theorem zBa:OpR X (binaryOp .Sub) (r2Of K DS.subD):=by
 intro pins s σ H x y v u Q I rx ry ⟨J,S,d1,d2,d,ha,r1,r2,e,k⟩
 unfold DS.subD at e
 split at e
 ·cases e;obtain rfl:=r1;obtain rfl:=r2
  exact zYy pins s σ H _ _ v u Q I rx ry ⟨_,_,rfl,rfl,k _ H ha .refl rfl⟩
 ·cases e
theorem zBo:OpR X (binaryOp .Mult) (r2Of K DS.mulD):=by
 intro pins s σ H x y v u Q I rx ry ⟨J,S,d1,d2,d,ha,r1,r2,e,k⟩
 unfold DS.mulD at e
 split at e
 ·split at e
  ·rename_i h
   cases e;obtain rfl:=r1;obtain rfl:=r2
   exact zVy pins s σ H _ _ v u Q I rx ry ⟨_,_,rfl,rfl,h,k _ H ha .refl rfl⟩
  ·cases e
 ·cases e
theorem zSa:OpR X (binaryOp .FloorDiv) (r2Of K DS.zPx):=by
 intro pins s σ H x y v u Q I rx ry ⟨J,S,d1,d2,d,ha,r1,r2,e,k⟩
 unfold DS.zPx at e
 split at e
 ·split at e
  ·rename_i h
   cases e;obtain rfl:=r1;obtain rfl:=r2
   exact zS9 pins s σ H _ _ v u Q I rx ry ⟨_,_,rfl,rfl,h,k _ H ha .refl rfl⟩
  ·cases e
 ·cases e
theorem zD7:OpR X (binaryOp .Mod) (r2Of K DS.modD):=by
 intro pins s σ H x y v u Q I rx ry ⟨J,S,d1,d2,d,ha,r1,r2,e,k⟩
 unfold DS.modD at e
 split at e
 ·split at e
  ·rename_i h
   cases e;obtain rfl:=r1;obtain rfl:=r2
   exact zZ0 pins s σ H _ _ v u Q I rx ry ⟨_,_,rfl,rfl,h,k _ H ha .refl rfl⟩
  ·cases e
 ·cases e
theorem zVx:OpR X (binaryOp .Pow) (r2Of K DS.powD):=by
 intro pins s σ H x y v u Q I rx ry ⟨J,S,d1,d2,d,ha,r1,r2,e,k⟩
 unfold DS.powD at e
 split at e
 ·split at e
  ·rename_i h
   cases e;obtain rfl:=r1;obtain rfl:=r2
   exact zYz pins s σ H _ _ v u Q I rx ry ⟨_,_,rfl,rfl,h,k _ H ha .refl rfl⟩
  ·cases e
 ·cases e
theorem zFl:UnR X (unaryOp .USub) (r1Of K DS.negD):=by
 intro pins s σ H x v Q I rx ⟨J,S,d1,d,ha,r1,e,k⟩
 unfold DS.negD at e
 split at e
 ·cases e;obtain rfl:=r1
  exact zXn pins s σ H _ v Q I rx ⟨_,rfl,k _ H ha .refl rfl⟩
 ·cases e
theorem zQq {pins:List (Addr × Obj)}{σ:St}{s:Shared}{a b:Addr}{xs ys:List V}{Q:VK}(I:Inv X pins σ H s) (h1:Rd H a (.lst xs)) (h2:Rd H b (.lst ys)) (hz:xs.length+ys.length<=sizeLine) (q:∀p,H p=none->Q (.ref p) (upd H p (.lst (xs++ys)))):
  wpAny (model X.prog X.w) X.A (binaryOp .Add (.ref a) (.ref b)) (EP X pins σ Q) X.xe s:=by
 obtain⟨z,its,n,r,hl,e⟩:=I.lstR h1
 obtain⟨z2,its2,n2,r2,hl2,e2⟩:=I.lstR h2
 refine PySem.P.add_list e e2 ?_ (by rw[xx,xx,<- hl,<- hl2];exact hz)
 rw[show its.toArray++its2.toArray=(its++its2).toArray by simp]
 exact⟨.ref _,_,I.lnew (t':=s.toks) (r.append r2) (by rw[xy];exact hz),rfl,q _ I.fresh⟩
theorem zSb:OpR X (binaryOp .Add) (yAk K DS.catD):=by
 intro pins s σ H x y v u Q I rx ry ⟨J,S,d1,d2,d,ha,r1,r2,e,k⟩
 unfold DS.catD at e
 split at e
 ·rename_i l m e1 e2
  split at e
  ·rename_i h
   cases e
   obtain⟨a,xs,rfl,h1,q1⟩:=zCg ha r1 e1
   obtain⟨b,ys,rfl,h2,q2⟩:=zCg ha r2 e2
   cases rx
   cases ry
   exact zQq I h1 h2 (by rw[<- q1.length,<- q2.length];exact h) fun p n=>k p _ H ha .refl n ⟨_,rfl,q1.append q2⟩
  ·cases e
 ·cases e
theorem zBy (hK:X.K=K:=by rfl):OpR X (binaryOp .Add) (r2Of K DS.addD):=by
 subst hK
 intro pins s σ H x y v u Q I rx ry ⟨J,S,d1,d2,d,ha,r1,r2,e,k⟩
 unfold DS.addD at e
 split at e
 ·cases e;obtain rfl:=r1;obtain rfl:=r2
  exact zZ1 pins s σ H _ _ v u Q I rx ry ⟨_,_,rfl,rfl,k _ H ha .refl rfl⟩
 ·split at e
  ·rename_i h
   cases e;obtain rfl:=r1;obtain rfl:=r2
   exact zMu pins s σ H _ _ v u Q I rx ry ⟨_,_,rfl,rfl,h,k _ H ha .refl rfl⟩
  ·cases e
 ·split at e
  ·rename_i l m h
   cases e
   obtain⟨a,xs,rfl,t1,q1⟩:=r1
   obtain⟨b,ys,rfl,t2,q2⟩:=r2
   have e1:=q1.length
   have e2:=q2.length
   refine zVz pins s σ H _ _ v u Q I rx ry ⟨a,b,xs,ys,rfl,rfl,t1.sq,t2.sq,fun z=>h.1 (by subst z;exact uL e1),by rw[<- e1,<- e2];exact h.2,fun z=>?_,fun z p n=>?_⟩
   ·subst z
    obtain rfl:m=[]:=uL e2
    rw[v3]at k
    exact k _ H ha .refl ⟨a,xs,rfl,t1,q1⟩
   ·exact k _ _ (ha.push n) (.push n) ⟨p,_,rfl,⟨zB1,ha.out n⟩,RepL.grow (.push n) _ _ (q1.append q2)⟩
  ·cases e
 ·exact zSb pins s σ H _ _ v u Q I rx ry ⟨J,S,d1,d2,d,ha,r1,r2,e,fun p o H' a1 g1 n r=>k _ _ (a1.push n) (g1.trans (.push n)) (r.rep a1 n)⟩
end
end L2
namespace L2
open PySem PySem.Spec PyProof.Rows
open DS (D Store Exn Rs SR)
section
variable {X:Cx}{K:PySem.W.Frag}{E:XE}{J:Js}{S:Store}{H:Hp}{d d1 d2:D}{v:V}
theorem zTx:OpR X (compareOp .LtE) (r2Of K DS.leD):=by
 intro pins s σ H x y v u Q I rx ry ⟨J,S,d1,d2,d,ha,r1,r2,e,k⟩
 unfold DS.leD DS.iLt at e
 split at e
 ·cases e;obtain rfl:=r1;obtain rfl:=r2
  exact yB5 pins s σ H _ _ v u Q I rx ry ⟨_,_,rfl,rfl,k _ H ha .refl (congrArg V.bl (by congr))⟩
 ·cases e;obtain rfl:=r1;obtain rfl:=r2
  exact zP4 pins s σ H _ _ v u Q I rx ry ⟨_,_,rfl,rfl,k _ H ha .refl (congrArg V.bl (by congr))⟩
 ·cases e
theorem zEe:OpR X (compareOp .Gt) (r2Of K DS.gtD):=by
 intro pins s σ H x y v u Q I rx ry ⟨J,S,d1,d2,d,ha,r1,r2,e,k⟩
 unfold DS.gtD at e
 split at e
 ·cases e;obtain rfl:=r1;obtain rfl:=r2
  exact yB6 pins s σ H _ _ v u Q I rx ry ⟨_,_,rfl,rfl,k _ H ha .refl (congrArg V.bl (by congr))⟩
 ·cases e
theorem zTy:OpR X (compareOp .GtE) (r2Of K DS.geD):=by
 intro pins s σ H x y v u Q I rx ry ⟨J,S,d1,d2,d,ha,r1,r2,e,k⟩
 unfold DS.geD at e
 split at e
 ·cases e;obtain rfl:=r1;obtain rfl:=r2
  exact yB7 pins s σ H _ _ v u Q I rx ry ⟨_,_,rfl,rfl,k _ H ha .refl (congrArg V.bl (by congr))⟩
 ·cases e
theorem yA5 {α β:Type}{l:List α}{xs:List β}{i:Int}{a:α}(hl:l.length=xs.length) (e:DS.atL l i=some a):∃j:Nat,l[j]?=some a/\∀b,xs[j]?=some b->atI xs i=some b:=by
 unfold DS.atL at e
 unfold atI
 rw[show DS.ixN l.length i=L2.ixN xs.length i by rw[hl];rfl]at e
 cases e1:L2.ixN xs.length i with
 | none=>rw[e1]at e;cases e
 | some j=>rw[e1]at e;exact⟨j,e,fun b eb=>eb⟩
theorem zI6 {k k':Key}(h:keyD k=keyD k'):k=k':=by
 cases k <;> cases k' <;> first|(cases h;rfl)|cases h
theorem zI5 {k:Key}(r:Rep K J H (keyD k) v):v=kV k:=by cases k <;> exact r
theorem zH2:∀{l m:List Key},l.map keyD=m.map keyD->l=m
 | [],[],_=>rfl
 | [],_::_,h=>by cases h
 | _::_,[],h=>by cases h
 | a::l,b::m,h=>by
  have h:=List.cons.inj h
  rw[zI6 h.1,zH2 h.2]
theorem zIs {k k':List Key}(h:zIt k=zIt k'):k=k':=zH2 (D.tup.inj h)
theorem zLg (h:DS.isKey d=true) (n:∀l,d≠.tup l):∃k,d=keyD k:=by
 cases d with
 | int i=>exact⟨.inl i,rfl⟩
 | str x=>exact⟨.inr x,rfl⟩
 | tup l=>exact absurd rfl (n l)
 | _=>cases h
theorem zKn:∀{l:List D},(l.all fun d=>match d with
  | .int _=>true
  | .str _=>true
  | _=>false)=true->∃k:List Key,l=k.map keyD
 | [],_=>⟨[],rfl⟩
 | d::l,h=>by
  rw[uk,xM]at h
  obtain⟨k,rfl⟩:=zKn h.2
  cases d with
  | int i=>exact⟨.inl i::k,rfl⟩
  | str x=>exact⟨.inr x::k,rfl⟩
  | _=>cases h.1
theorem zI3:∀{k:List Key}{xs:List V},RepL K J H (k.map keyD) xs->xs=k.map kV
 | [],_,h=>h
 | a::k,_,⟨x,r,e,h,t⟩=>by subst e;rw[zI5 h,zI3 t];rfl
open Classical in
theorem zKs {κ:Type}[DecidableEq κ] {f:κ->D}(fi:∀a b,f a=f b->a=b) (k:κ):∀{kvs:List (κ × V)}{vs:List D},RepL K J H vs (kvs.map (·.2))->
  (valV kvs k=none/\f k ∉ kvs.map (fun p=>f p.1)/\DS.look2 (kvs.map fun p=>f p.1) vs (f k)=none)\/∃w dv,valV kvs k=some w/\f k∈kvs.map (fun p=>f p.1)/\DS.look2 (kvs.map fun p=>f p.1) vs (f k)=some dv/\Rep K J H dv w
 | [],vs,r=>.inl ⟨rfl,by simp,by cases vs <;> rfl⟩
 | p::kvs,[],r=>by have h:p.2::kvs.map (·.2)=[]:=r;cases h
 | p::kvs,dv::vs,⟨x,t,e,h,rl⟩=>by
  have e:=List.cons.inj (show p.2::kvs.map (·.2)=x::t from e)
  obtain⟨rfl,rfl⟩:=e
  by_cases z:p.1=k
  ·refine .inr ⟨p.2,dv,zFb z,by simp[z],?_,h⟩
   unfold DS.look2
   rw[xt]
   exact xf (by rw[z])
  ·have zf:f p.1≠f k:=fun q=>z (fi _ _ q)
   have e1:DS.look2 ((p::kvs).map fun p=>f p.1) (dv::vs) (f k)=DS.look2 (kvs.map fun p=>f p.1) vs (f k):=by
    rw[xt]
    conv=>lhs;unfold DS.look2
    exact xg zf
   rw[zFc z,e1]
   rcases zKs fi k rl with⟨a1,a2,a3⟩|⟨w,dv',a1,a2,a3,a4⟩
   ·exact .inl ⟨a1,by simp[a2,xw zf] <;> simpa using a2,a3⟩
   ·exact .inr ⟨w,dv',a1,by rw[xt];exact vt _ a2,a3,a4⟩
theorem zQ6 {t:Bool}{ks vs:List D}{a:Addr}{o:HO}{xs:List V}{y:V}(he:H a=some o) (ht:DOb o t ks xs) (rl:RepL K J H vs xs) (ry:Rep K J H d y) (hk:DS.zCr t d=true):
  (DGet H a y none/\d ∉ ks/\DS.look2 ks vs d=none)\/∃w dv,DGet H a y (some w)/\d∈ks/\DS.look2 ks vs d=some dv/\Rep K J H dv w:=by
 unfold DS.zCr at hk
 rw[xM]at hk
 rcases ht with⟨rfl,kvs,rfl,rfl,rfl⟩|⟨rfl,kvs,rfl,rfl,rfl⟩
 ·obtain⟨k,rfl⟩:=zLg hk.1 fun l z=>by subst z;cases hk.2
  obtain rfl:=zI5 ry
  rcases zKs (fun a b=>zI6) k rl with⟨a1,a2,a3⟩|⟨w,dv,a1,a2,a3,a4⟩
  ·exact .inl ⟨.inl ⟨kvs,k,.inl he,rfl,a1.symm⟩,a2,a3⟩
  ·exact .inr ⟨w,dv,.inl ⟨kvs,k,.inl he,rfl,a1.symm⟩,a2,a3,a4⟩
 ·cases d with
  | tup l=>
   obtain⟨k,rfl⟩:=zKn (show _=true from hk.1)
   obtain⟨b,zs,rfl,tb,rz⟩:=ry
   obtain rfl:=zI3 rz
   rcases zKs (f:=zIt) (fun a b=>zIs) k rl with⟨a1,a2,a3⟩|⟨w,dv,a1,a2,a3,a4⟩
   ·exact .inl ⟨.inr ⟨kvs,k,b,.inl he,rfl,tb.1,a1.symm⟩,a2,a3⟩
   ·exact .inr ⟨w,dv,.inr ⟨kvs,k,b,.inl he,rfl,tb.1,a1.symm⟩,a2,a3,a4⟩
  | _=>cases hk.2
theorem zQb {t:Bool}{ks vs:List D}(ha:AbS K J S H) (r:Rep K J H d v) (e:DS.look S d=some (.dct t ks vs)):∃a o xs,v=.ref a/\H a=some o/\DOb o t ks xs/\RepL K J H vs xs:=by
 cases d with
 | dct t ks vs=>cases e;obtain⟨a,o,xs,rfl,_,h,q,rl⟩:=r;exact⟨a,o,xs,rfl,h,q,rl⟩
 | ref n=>
  obtain⟨a,ea,rfl⟩:=r
  obtain⟨c,ec,o,eo,rc⟩:=ha.at ea
  have e:S[n]?=_:=e
  rw[ec]at e;cases e
  obtain⟨xs,q,rl⟩:=rc
  exact⟨a,o,xs,rfl,eo,q,rl⟩
 | _=>cases e
theorem zO2 {x:Str}(ha:AbS K J S H) (r:Rep K J H d v) (e:DS.look S d=some (.str x)):v=.str x:=by
 cases d with
 | str x=>cases e;exact r
 | ref n=>
  obtain⟨a,ea,rfl⟩:=r
  obtain⟨c,ec,o,eo,rc⟩:=ha.at ea
  have e:S[n]?=_:=e
  rw[ec]at e;cases e
  exact False.elim rc
 | _=>cases e
theorem zCd {l:List D}(e:DS.look S d=some (.tup l)\/DS.look S d=some (.lst l)):DS.items S d=some l:=by
 unfold DS.items
 rcases e with e|e <;> rw[e]
theorem ix_D (hu:X.A.units+1<cLine) (hK:X.K=K:=by rfl):IxR X (r2Of K DS.ixD):=by
 subst hK
 intro value slice pins s σ H x y v u Q I rx ry ⟨J,S,d1,d2,d,ha,r1,r2,e,k⟩ hs
 have seq:∀(l:List D) (i:Int),DS.items S d1=some l->d2=.int i->DS.atL l i=some d->wpAny (model X.prog X.w) X.A (subscriptTail value slice v u) (EP X pins σ Q) X.xe s:=fun l i e1 e2 e3=>by
  subst e2
  obtain rfl:=r2
  obtain⟨a,xs,rfl,hq,rl⟩:=zFf ha r1 e1
  obtain⟨j,ej,h⟩:=yA5 (xs:=xs) rl.length e3
  obtain⟨w,ew,rw'⟩:=rl.get ej
  rcases hq with hq|hq
  ·exact zWf value slice pins s σ H _ _ v u Q I rx ry ⟨a,xs,i,w,rfl,rfl,hq,h w ew,k w H ha .refl rw'⟩ hs
  ·exact zZi value slice pins s σ H _ _ v u Q I rx ry ⟨a,xs,i,w,rfl,rfl,hq,h w ew,k w H ha .refl rw'⟩ hs
 unfold DS.ixD at e
 split at e
 ·rename_i l i e1;exact seq l i (zCd (.inl e1)) rfl e
 ·rename_i l i e1;exact seq l i (zCd (.inr e1)) rfl e
 ·rename_i z i e1
  split at e
  ·rename_i hz
   cases e2:DS.atL z.cps.toList i with
   | none=>rw[e2]at e;cases e
   | some c=>
    rw[e2]at e;cases e
    obtain rfl:=zO2 ha r1 e1
    obtain rfl:=r2
    exact zZj value slice pins s σ H _ _ v u Q I rx ry ⟨z,i,c,rfl,rfl,hz,by unfold DS.atL at e2;unfold atI;exact e2,k _ H ha .refl rfl⟩ hs
  ·cases e
 ·rename_i t ks vs kk e1
  split at e
  ·rename_i hk
   obtain⟨a,o,xs,rfl,he,q,rl⟩:=zQb ha r1 e1
   rcases zQ6 he q rl r2 hk with⟨_,_,h⟩|⟨w,dv,g,_,h,rw'⟩
   ·rw[h]at e;cases e
   ·rw[h]at e;cases e
    obtain rfl:v=Value.ref a:=rx
    exact tail_any (ops:=[.ref a,u]) (zKw I g) PySem.F.slot_dict_getitem.lookup (zQe hu I g ry fun w' s3 I3 rw2=>⟨w,H,I3,rw2,k w H ha .refl rw'⟩) hs
  ·cases e
 ·cases e
theorem zCi {prog:Program}{w:World}{A:Around}{E:Value->Shared->Prop}{s:Shared}{t sl:Addr}{items:Array Value}{vl vu:Value}{lo hi:Option Int}{Q:Value->Shared->Prop}(ht:IsTup s.heap t items) (hs:s.heap.IsSliceOf sl vl vu .none) (pl:IsPart vl lo) (pu:IsPart vu hi)
  (hw:HT.sIx items.size 0 lo=0/\HT.sIx items.size items.size hi=items.size) (h:Q (.ref t) s):wpAny (model prog w) A (getItem (.ref t) (.ref sl)) Q E s:=by
 obtain⟨os,hos,hcs,hds⟩:=id hs
 have hTs:s.TypeIs (.ref sl) "slice":=⟨os,hos,hcs⟩
 unfold getItem
 try with_reducible refine xK ?_
 first|refine xa (xh ?_)|skip
 refine xa (wpAny_sequenceKey ht.typeIs (by decide) ?_)
 refine xa (vR (name:=Str.ofString "__getitem__") ht.typeIs vX (vh vX ht.typeIs entry_tuple_getitem ?_ (args_tuple_getitem _ _)))
 show wpAny _ _ (Builtin.Tuple.tupleItemsOf (.ref t) >>= _) _ _ s
 refine xa (tupleItemsOf_ ht ?_)
 refine xa (vY hTs ?_)
 rw[xf (by decide)]
 refine xa (HT.sliceApplied_gen hs pl pu ?_)
 show wpAny _ _ (if(((HT.sIx items.size 0 lo:Nat):Int) == 0 && (1:Int) == 1 && (HT.sIx items.size items.size hi-HT.sIx items.size 0 lo) == items.size)=true then _ else _) _ _ s
 rw[xf (by rw[hw.1,hw.2];simp)]
 have tex:∀{Q:Bool->Shared->Prop},Q true s->wpAny (model prog w) A.in1 (Builtin.Tuple.tupleIsExact (.ref t)) Q E s:=fun {Q} q=>by
  unfold Builtin.Tuple.tupleIsExact
  refine xa (vY ht.typeIs (xh ?_))
  exact q
 refine xa (tex ?_)
 rw[xf rfl]
 refine xa (vG ?_)
 exact xh ⟨_,rfl,xh h⟩
theorem zKx {l:List D}{xs:List V}(rl:RepL K J H l xs) (lo hi:Option Int):RepL K J H (DS.cutL l lo hi) (cutV xs lo hi):=by
 unfold DS.cutL cutV
 rw[show DS.sIx l.length 0 lo=HT.sIx xs.length 0 lo by rw[rl.length];rfl,show DS.sIx l.length l.length hi=HT.sIx xs.length xs.length hi by rw[rl.length];rfl]
 exact(rl.drop _).take _
theorem zQf {l:List D}{xs:List V}{lo hi:Option Int}(rl:RepL K J H l xs) (hw:HT.sIx xs.length 0 lo=0/\HT.sIx xs.length xs.length hi=xs.length):DS.cutL l lo hi=l:=by
 unfold DS.cutL
 rw[show DS.sIx l.length 0 lo=HT.sIx xs.length 0 lo by rw[rl.length];rfl,show DS.sIx l.length l.length hi=HT.sIx xs.length xs.length hi by rw[rl.length];rfl,hw.1,hw.2,<- rl.length]
 simp
theorem zJ6 {l:List D}(ha:AbS K J S H) (r:Rep K J H d v) (e:DS.look S d=some (.lst l)):∃a xs,v=.ref a/\SqL K H a xs/\RepL K J H l xs:=by
 cases d with
 | lst l=>cases e;obtain⟨a,xs,rfl,t,rl⟩:=r;exact⟨a,xs,rfl,t.sq,rl⟩
 | klst l=>cases e;obtain⟨a,xs,rfl,t,rl⟩:=r;exact⟨a,xs,rfl,t.sq,rl⟩
 | ref n=>
  obtain⟨a,ea,rfl⟩:=r
  obtain⟨c,ec,o,eo,rc⟩:=ha.at ea
  have e:S[n]?=_:=e
  rw[ec]at e;cases e
  obtain⟨xs,rfl,rl⟩:=rc
  exact⟨a,xs,rfl,.inl (.inl eo),rl⟩
 | _=>cases e
theorem sl_D (hK:X.K=K:=by rfl):SlR X (slOf K DS.slD):=by
 subst hK
 intro pins s σ H x v vl vu lo hi sl Q I rx hs pl pu ⟨J,S,d1,d,ha,r1,e,k⟩
 unfold DS.slD at e
 split at e
 ·rename_i l
  cases e
  have r0:=r1
  obtain⟨a,xs,rfl,t,rl⟩:=r1
  by_cases hw:HT.sIx xs.length 0 lo=0/\HT.sIx xs.length xs.length hi=xs.length
  ·cases rx
   obtain⟨its,r,ht,hz⟩:=I.tuple t.sq
   have hlen:its.toArray.size=xs.length:=by rw[xx];exact r.length.symm
   refine⟨"tuple",_,vX.lookup,ht.typeIs,zCi ht hs pl pu (by rw[hlen];exact hw) ⟨.ref a,H,I,rfl,k _ H ha .refl ?_⟩⟩
   rw[zQf rl hw];exact r0
  ·exact zTq pins s σ H _ v vl vu lo hi sl Q I rx hs pl pu ⟨a,xs,rfl,t.sq,hw,fun p n=>k _ _ (ha.push n) (.push n) ⟨p,_,rfl,⟨zB1,ha.out n⟩,RepL.grow (.push n) _ _ (zKx rl lo hi)⟩⟩
 ·rename_i l
  have r0:=r1
  obtain⟨a,xs,rfl,t,rl⟩:=r1
  split at e
  ·rename_i hw
   cases e
   have hw:HT.sIx xs.length 0 lo=0/\HT.sIx xs.length xs.length hi=xs.length:=by rw[<- rl.length];exact hw
   cases rx
   obtain⟨its,r,ht,hz⟩:=I.tuple (t.sq (H:=H))
   have hlen:its.toArray.size=xs.length:=by rw[xx];exact r.length.symm
   exact⟨"tuple",_,vX.lookup,ht.typeIs,zCi ht hs pl pu (by rw[hlen];exact hw) ⟨.ref a,H,I,rfl,k _ H ha .refl r0⟩⟩
  ·rename_i hw
   cases e
   have hw:¬ (HT.sIx xs.length 0 lo=0/\HT.sIx xs.length xs.length hi=xs.length):=by rw[<- rl.length];exact hw
   exact zTq pins s σ H _ v vl vu lo hi sl Q I rx hs pl pu ⟨a,xs,rfl,t.sq,hw,fun p n=>k _ _ (ha.push n) (.push n) ⟨p,_,rfl,⟨zB1,ha.out n⟩,RepL.grow (.push n) _ _ (zKx rl lo hi)⟩⟩
 ·split at e
  ·rename_i l e1
   cases e
   obtain⟨a,xs,rfl,t,rl⟩:=zJ6 ha r1 e1
   exact zUs pins s σ H _ v vl vu lo hi sl Q I rx hs pl pu ⟨a,xs,rfl,t,fun p n=>k _ _ (ha.push n) (.push n) ⟨p,_,rfl,⟨zB1,ha.out n⟩,RepL.grow (.push n) _ _ (zKx rl lo hi)⟩⟩
  ·cases e
end
end L2
namespace L2
open PySem PySem.Spec PyProof.Rows
open DS (D Store Exn Rs SR)
section
variable {X:Cx}{K:PySem.W.Frag}{E:XE}{J:Js}{S:Store}{H:Hp}{d d1 d2:D}{v:V}
noncomputable def pOf (K:PySem.W.Frag) (g:Store->D->D->D->Option Store):TSet:=fun o i v H Q=>∃J S d1 d2 d3 S',AbS K J S H/\Rep K J H d1 o/\Rep K J H d2 i/\Rep K J H d3 v/\g S d1 d2 d3=some S'/\∀H',AbS K J S' H'->Grow J H J H'->Q H'
open Classical in
theorem zTu {κ:Type}[DecidableEq κ] {f:κ->D}(fi:∀a b,f a=f b->a=b) {k:κ}{dv:D}{w:V}{kvs:List (κ × V)}{vs:List D}(r:RepL K J H vs (kvs.map (·.2))) (rv:Rep K J H dv w):
  (DS.put2 (kvs.map fun p=>f p.1) vs (f k) dv).1=(putK kvs k w).map (fun p=>f p.1)/\RepL K J H (DS.put2 (kvs.map fun p=>f p.1) vs (f k) dv).2 ((putK kvs k w).map (·.2)):=by
 have any_iff:(kvs.any fun kv=>decide (kv.1=k))=true <-> f k∈kvs.map fun p=>f p.1:=by
  simp only[yn,decide_eq_true_eq,xq]
  constructor
  ·rintro⟨p,hp,e⟩;exact⟨p,hp,by rw[e]⟩
  ·rintro⟨p,hp,e⟩;exact⟨p,hp,fi _ _ e⟩
 unfold DS.put2 putK
 by_cases hm:f k∈kvs.map fun p=>f p.1
 ·rw[xf hm,xf (any_iff.mpr hm)]
  refine⟨?_,?_⟩
  ·rw[xP]
   refine List.map_congr_left fun p _=>?_
   show f p.1=f (if p.1=k then(p.1,w)else p).1
   split <;> rfl
  ·clear hm any_iff
   induction kvs generalizing vs with
   | nil=>cases vs <;> rfl
   | cons p kvs ih=>
    cases vs with
    | nil=>cases r
    | cons dw vs=>
     obtain⟨x,t,e,h,rl⟩:=r
     have e:=List.cons.inj (show p.2::kvs.map (·.2)=x::t from e)
     obtain⟨rfl,rfl⟩:=e
     refine⟨(if p.1=k then(p.1,w)else p).2,_,rfl,?_,ih rl⟩
     by_cases z:p.1=k
     ·rw[xf z,xf (show f p.1=f k by rw[z])];exact rv
     ·rw[xg z,xg fun q=>z (fi _ _ q)];exact h
 ·rw[xg hm,xg (fun z=>hm (any_iff.mp z))]
  refine⟨by simp,?_⟩
  rw[xX]
  exact r.snoc rv
theorem zKv {o i e:Expr}{mo mi m:DS.EM}{sp2 pos:Pos}{g:Store->D->D->D->Option Store}(hs:PSet X (pOf K g)) (ho:DE X K E o mo) (hi:DE X K E i mi) (he:DE X K E e m) (h:nsl i=true:=by rfl) (h2:nco e=true:=by rfl):DS1 X K E (.Assign [.Subscript o i sp2] e pos) (DS.sPut g mo mi m):=
 ⟨(qasgs' he.h (zVi ho.h hi.h hs h) h2).imp fun D σ H ⟨env,S,J,ha,he,q⟩=>⟨env,S,J,ha,he,q.then.imp fun dv S1 J1 H1 _ a1 g1 q1 v rv=>⟨env,S1,J1,a1,he.grow g1,q1.then.imp fun dx S2 J2 H2 _ a2 g2 q2 x rx=>
  ⟨env,S2,J2,a2,he.grow (g1.trans g2),q2.then.imp fun di S3 J3 H3 _ a3 g3 q3 y ry=>by
   cases e1:g S3 dx di dv with
   | none=>rw[e1]at q3;exact False.elim q3
   | some S4=>
    rw[e1]at q3
    exact⟨J3,S3,dx,di,dv,S4,a3,Rep.grow g3 _ _ rx,ry,Rep.grow (g2.trans g3) _ _ rv,e1,fun H' h1 h2=>q3 J3 H' σ h1 h2 (he.grow (g1.trans (g2.trans (g3.trans h2))))⟩⟩⟩⟩⟩
theorem zCq {ds:List D}{xs:List V}{d:D}(r:RepL K J H [d] xs):∃x,xs=[x]/\Rep K J H d x:=by
 obtain⟨x,t,rfl,h,rfl⟩:=r
 exact⟨x,rfl,h⟩
theorem zZz {pins:List (Addr × Obj)}{σ:St}{s:Shared}{a:Addr}{kvs:List (List Key × V)}{Q:Value->Shared->Prop}{A:Around}{E:Value->Shared->Prop}(I:Inv X pins σ H s) (e:H a=some (.dT kvs)) (h:∀t s',Inv X pins σ H s'->Q (.int kvs.length t) s'):wpAny (model X.prog X.w) A (call (.builtin "len") [.ref a]) Q E s:=by
 obtain⟨z,hd,xs,rel,dd⟩:=zQ3 I.hok (.inl e)
 have hT:s.TypeIs (.ref a) "dict":=dd.typeIs
 obtain⟨o,es,ep,ho,hx,hdat,hes,hall,hn⟩:=dd
 have hsz:es.size=kvs.length:=by rw[<- uB,hes,xp,<- Paired.length rel]
 rw[vO]at z
 have mt:MeetsIn X.prog X.w (Builtin.«dict.__len__» ⟨[.ref a],[]⟩) (fun _ R s'=>s'=s/\R (.ok (.ret (.int kvs.length s'.toks))) { s' with toks:=s'.toks+1 }):=.of_wp fun A R s' ⟨e,h⟩=>by
  subst e
  show wpAny _ _ (dictSize a >>= _) _ _ s'
  unfold dictSize
  refine xa (xa (wpAny_dictEntries ho hdat (xh ?_)))
  show wpAny _ _ (Builtin.Dict.pendingCount a >>= _) _ _ s'
  refine xa (wpAny_pendingCount_other hd ?_)
  refine wpAny_ret_mkInt ?_
  rw[Nat.add_zero,hsz];exact h
 refine Calls.call_function_entry kind_len plain_len entry_len (args_len1 _) ?_
 unfold Builtin.«len»
 refine xa (m:=oneArg "len" _) (xh ?_)
 refine xa (m:=callSpecial? (.ref a) (Str.ofString "__len__")) (vR (name:=Str.ofString "__len__") hT PySem.F.slot_dict_len (call_meetsIn PySem.F.slot_dict_len hT PySem.F.entry_dict_len (PySem.F.args_dict_len_1 _) mt ⟨rfl,?_⟩))
 show wpAny _ _ _ _ _ { s with toks:=s.toks+1 }
 refine xa (xK (xh ?_))
 refine xa (wpAny_letGo ?_)
 show wpAny _ _ (if((kvs.length:Nat):Int)<0 then _ else _) _ _ _
 rw[xg (by nofun)]
 show wpAny _ _ (if((kvs.length:Nat):Int) >= 2 ^ 63 then _ else _) _ _ _
 rw[xg (by nofun)]
 exact xa (wpAny_mkInt (xh ⟨_,rfl,h _ _ (I.tok _)⟩))
theorem zAo (hK:X.K=K:=by rfl):zBs X (.builtin "len") (cOf K DS.lenB):=by
 subst hK
 intro pins s σ H xs us Q I r ⟨J,S,ds,d,ha,rl,e,k⟩
 unfold DS.lenB at e
 split at e
 ·rename_i d0
  obtain⟨x,rfl,rx⟩:=zCq (ds:=[]) rl
  have seq:∀l,DS.items S d0=some l->d=.int l.length->wpAny (model X.prog X.w) X.A (call (.builtin "len") us) (EP X pins σ Q) X.xe s:=fun l e1 e2=>by
   subst e2
   obtain⟨a,ys,rfl,hq,q⟩:=zFf ha rx e1
   exact zJq pins s σ H _ us Q I r ⟨a,ys,rfl,hq,k _ H ha .refl (by rw[q.length];rfl)⟩
  split at e
  ·rename_i l e1;cases e;exact seq l (zCd (.inl e1)) rfl
  ·rename_i l e1;cases e;exact seq l (zCd (.inr e1)) rfl
  ·rename_i t ks vs e1
   cases e
   obtain⟨a,o,ys,rfl,he,q,_⟩:=zQb ha rx e1
   obtain⟨u,rfl,ru⟩:=vals1 r
   cases ru
   rcases q with⟨rfl,kvs,rfl,rfl,rfl⟩|⟨rfl,kvs,rfl,rfl,rfl⟩
   ·exact yBq I (.inl he) fun t s' I'=>⟨.int kvs.length,H,I',⟨t,rfl⟩,k _ H ha .refl (by rw[xp];rfl)⟩
   ·exact zZz I he fun t s' I'=>⟨.int kvs.length,H,I',⟨t,rfl⟩,k _ H ha .refl (by rw[xp];rfl)⟩
  ·rename_i z e1
   split at e
   ·rename_i hz
    cases e
    obtain rfl:=zO2 ha rx e1
    exact zJp pins s σ H _ us Q I r ⟨z,rfl,hz,k _ H ha .refl rfl⟩
   ·cases e
  ·cases e
 ·cases e
theorem zB8 (hK:X.K=K:=by rfl):zBs X (.type "tuple") (cOf K DS.zB4):=by
 subst hK
 intro pins s σ H xs us Q I r ⟨J,S,ds,d,ha,rl,e,k⟩
 unfold DS.zB4 at e
 split at e
 ·rename_i d0
  obtain⟨x,rfl,rx⟩:=zCq (ds:=[]) rl
  split at e
  ·rename_i l
   cases e
   have r0:=rx
   obtain⟨a,ys,rfl,t,q⟩:=rx
   exact zDb pins s σ H _ us Q I r ⟨a,ys,rfl,.inr ⟨t.sq,k _ H ha .refl r0⟩⟩
  ·rename_i l
   cases e
   have r0:=rx
   obtain⟨a,ys,rfl,t,q⟩:=rx
   exact zDb pins s σ H _ us Q I r ⟨a,ys,rfl,.inr ⟨t.sq,k _ H ha .refl r0⟩⟩
  ·cases e1:DS.litems S d0 with
   | none=>rw[e1]at e;cases e
   | some l=>
    rw[e1]at e;cases e
    obtain⟨a,ys,rfl,hq,q⟩:=zCg ha rx e1
    exact zDb pins s σ H _ us Q I r ⟨a,ys,rfl,.inl ⟨.inl hq,fun p n=>k _ _ (ha.push n) (.push n) ⟨p,ys,rfl,⟨zB1,ha.out n⟩,RepL.grow (.push n) _ _ q⟩⟩⟩
 ·cases e
theorem zIl:∀{l:List D}{xs:List V}{bs:List Bool},RepL K J H l xs->DS.bools l=some bs->xs=bs.map V.bl
 | [],_,_,r,e=>by cases e;exact r
 | d::l,_,bs,⟨x,t,e0,h,rl⟩,e=>by
  subst e0
  cases d with
  | bl b=>
   unfold DS.bools at e
   cases e1:DS.bools l with
   | none=>rw[e1]at e;cases e
   | some cs=>rw[e1]at e;cases e;rw[zIl rl e1,show x=.bl b from h];rfl
  | _=>cases e
theorem zDz (hc:X.calm=true) (hK:X.K=K:=by rfl):zBs X (.builtin "all") (cOf K DS.allB):=by
 subst hK
 intro pins s σ H xs us Q I r ⟨J,S,ds,d,ha,rl,e,k⟩
 unfold DS.allB at e
 split at e
 ·rename_i d0
  obtain⟨x,rfl,rx⟩:=zCq (ds:=[]) rl
  cases e1:DS.litems S d0 with
  | none=>rw[e1]at e;cases e
  | some l=>
   rw[e1]at e
   cases e2:DS.bools l with
   | none=>simp[e2]at e
   | some bs=>
    simp only[Option.bind_some,e2,vL,ya]at e
    subst e
    obtain⟨a,ys,rfl,hq,q⟩:=zCg ha rx e1
    obtain rfl:=zIl q e2
    exact zQv hc pins s σ H _ us Q I r ⟨a,bs,rfl,.inl hq,k _ H ha .refl rfl⟩
 ·cases e
theorem zDy (hc:X.calm=true) (hK:X.K=K:=by rfl):zBs X (.builtin "any") (cOf K DS.anyB):=by
 subst hK
 intro pins s σ H xs us Q I r ⟨J,S,ds,d,ha,rl,e,k⟩
 unfold DS.anyB at e
 split at e
 ·rename_i d0
  obtain⟨x,rfl,rx⟩:=zCq (ds:=[]) rl
  cases e1:DS.litems S d0 with
  | none=>rw[e1]at e;cases e
  | some l=>
   rw[e1]at e
   cases e2:DS.bools l with
   | none=>simp[e2]at e
   | some bs=>
    simp only[Option.bind_some,e2,vL,ya]at e
    subst e
    obtain⟨a,ys,rfl,hq,q⟩:=zCg ha rx e1
    obtain rfl:=zIl q e2
    exact zQu hc pins s σ H _ us Q I r ⟨a,bs,rfl,.inl hq,k _ H ha .refl rfl⟩
 ·cases e
theorem zHl {d1 d2:D}{xs:List V}(r:RepL K J H [d1,d2] xs):∃x y,xs=[x,y]/\Rep K J H d1 x/\Rep K J H d2 y:=by
 obtain⟨x,t,rfl,h,y,t',rfl,h',rfl⟩:=r
 exact⟨x,y,rfl,h,h'⟩
theorem zNl (hc:X.calm=true):zBs X (.builtin "max") (cOf K DS.max2B):=by
 intro pins s σ H xs us Q I r ⟨J,S,ds,d,ha,rl,e,k⟩
 unfold DS.max2B at e
 split at e
 ·obtain⟨x,y,rfl,rx,ry⟩:=zHl rl
  obtain rfl:=rx;obtain rfl:=ry
  cases e
  exact zQs hc pins s σ H _ us Q I r ⟨_,_,rfl,k _ H ha .refl (congrArg V.int (by congr))⟩
 ·cases e
theorem zNk (hc:X.calm=true):zBs X (.builtin "min") (cOf K DS.min2B):=by
 intro pins s σ H xs us Q I r ⟨J,S,ds,d,ha,rl,e,k⟩
 unfold DS.min2B at e
 split at e
 ·obtain⟨x,y,rfl,rx,ry⟩:=zHl rl
  obtain rfl:=rx;obtain rfl:=ry
  cases e
  exact zQr hc pins s σ H _ us Q I r ⟨_,_,rfl,k _ H ha .refl (congrArg V.int (by congr))⟩
 ·cases e
theorem zD1:MtR X "list.append" (mOf K DS.zC1):=by
 intro pins s σ H x xs v us Q I rx rs ⟨J,S,d1,ds,d,S',ha,r1,rl,e,k⟩
 unfold DS.zC1 at e
 split at e
 ·rename_i n dv
  obtain⟨a,ea,rfl⟩:=r1
  obtain⟨c,ec,ob,eo,rc⟩:=ha.at ea
  obtain⟨y,rfl,ry⟩:=zCq (ds:=[]) rl
  split at e
  ·rename_i l es
   rw[ec]at es;cases es
   obtain⟨ys,rfl,rl⟩:=rc
   split at e
   ·rename_i hz
    cases e
    exact zP8 pins s σ H _ _ v us Q I rx rs ⟨a,ys,y,rfl,rfl,eo,by rw[<- rl.length];exact hz,k _ _ (ha.write ea ⟨_,rfl,rl.snoc ry⟩) (.write ea) rfl⟩
   ·cases e
  ·cases e
 ·cases e
theorem zW4:MtR X "list.pop" (mOf K DS.popM):=by
 intro pins s σ H x xs v us Q I rx rs ⟨J,S,d1,ds,d,S',ha,r1,rl,e,k⟩
 unfold DS.popM at e
 split at e
 ·rename_i n
  obtain⟨a,ea,rfl⟩:=r1
  obtain⟨c,ec,ob,eo,rc⟩:=ha.at ea
  obtain rfl:=rl
  split at e
  ·rename_i l es
   rw[ec]at es;cases es
   obtain⟨ys,rfl,rl⟩:=rc
   cases e1:l[l.length-1]? with
   | none=>rw[e1]at e;cases e
   | some w=>
    rw[e1]at e
    simp only[vL,ya,Prod.mk.injEq]at e
    obtain⟨rfl,rfl⟩:=e
    obtain⟨y,ey,ry⟩:=rl.get e1
    have g:Grow J H J (upd H a (.lst ys.dropLast)):=.write ea
    exact zZ5 pins s σ H _ _ v us Q I rx rs ⟨a,ys,y,rfl,rfl,eo,by rw[<- rl.length];exact ey,k _ _ (ha.write ea ⟨_,rfl,rl.dropLast⟩) g (Rep.grow g _ _ ry)⟩
  ·cases e
 ·cases e
theorem zMx:MtR X "list.extend" (mOf K DS.zEx):=by
 intro pins s σ H x xs v us Q I rx rs ⟨J,S,d1,ds,d,S',ha,r1,rl,e,k⟩
 unfold DS.zEx at e
 split at e
 ·rename_i n dv
  obtain⟨a,ea,rfl⟩:=r1
  obtain⟨c,ec,ob,eo,rc⟩:=ha.at ea
  obtain⟨y,rfl,ry⟩:=zCq (ds:=[]) rl
  split at e
  ·cases e
  ·split at e
   ·rename_i l m es em
    rw[ec]at es;cases es
    obtain⟨ys,rfl,rl'⟩:=rc
    obtain⟨b,zs,rfl,hq,q⟩:=zCg ha ry em
    split at e
    ·rename_i hz
     cases e
     cases rx
     obtain⟨u,rfl,ru⟩:=rs.one
     cases ru
     obtain⟨z,its,n,r,hl,e⟩:=I.lstM eo
     obtain⟨z2,its2,n2,r2,hl2,e2⟩:=I.lstR hq
     have hsz:its.toArray.size+its2.toArray.size<=sizeLine:=by rw[xx,xx,<- hl,<- hl2,<- rl'.length,<- q.length];exact hz
     have hlong:¬ (!its.toArray.isEmpty && Builtin.List.listTooLong (its.toArray.size+its2.toArray.size))=true:=by rw[zSd hsz,Bool.and_false];exact yg
     refine call_meets F.slot_list_extend ⟨_,e,rfl⟩ F.entry_list_extend (F.args_list_extend_2 _ _) (AutoSeq1.list_extend_list_list_0 a its.toArray n b its2.toArray n2 hlong (by rw[xx];lia) (by nofun)) ⟨e,e2,?_⟩
     exact⟨.non,_,I.lset (its':=its++its2) eo e (by simp) (r.append r2) (by rw[xy,<- rl'.length,<- q.length];exact hz),rfl,k _ _ (ha.write ea ⟨_,rfl,rl'.append q⟩) (.write ea) rfl⟩
    ·cases e
   ·cases e
 ·cases e
end
end L2
namespace L2
open PySem PySem.Spec PyProof.Rows
open DS (D Store Exn Rs SR)
section
variable {X:Cx}{K:PySem.W.Frag}{E:XE}{J:Js}{S:Store}{H:Hp}{d d1 d2:D}{v:V}
theorem zPl {tg:Expr}{pins:List (Addr × Obj)}{s1:Shared}{σ:St}{H1:Hp}{R:It->Hp->Prop}{a:Addr}{xs:List V}(I1:Inv X pins σ H1 s1) (hq:SqL X.K H1 a xs) (q:R (Itl X.K a) H1):wpAny (model X.prog X.w) X.A (pyIter (.ref a)) (PIE X pins σ tg R) X.xe s1:=by
 obtain⟨its,rv,p,hz⟩:=I1.list hq
 refine v9 p.isList ?_
 refine⟨s1.heap.objs.size,[s1.heap.objs.size],_,_,H1,rfl,I1.kept (t':=s1.toks) fun b o e=>xn _ e,zNu a _,⟨_,xA _ rfl,rfl,rfl⟩,fun b hb=>?_,q⟩
 have e:b=s1.heap.objs.size:=by simpa using hb
 subst e
 exact I1.fpOk (xi _) (I1.hok.fresh (xi _))
theorem zSp {tg:Expr}{pins:List (Addr × Obj)}{s1:Shared}{σ:St}{H1:Hp}{R:It->Hp->Prop}{a:Addr}{xs:List V}(I1:Inv X pins σ H1 s1) (hq:SqT X.K H1 a xs) (q:R (Itt X.K a) H1):wpAny (model X.prog X.w) X.A (pyIter (.ref a)) (PIE X pins σ tg R) X.xe s1:=by
 obtain⟨its,rv,p,hz⟩:=I1.tuple hq
 refine wpAny_pyIter_tuple (show s1.heap.IsTuple a its.toArray from p) ?_
 refine⟨s1.heap.objs.size,[s1.heap.objs.size],_,_,H1,rfl,I1.kept (t':=s1.toks) fun b o e=>xn _ e,zMl a _,⟨_,xA _ rfl,rfl,rfl⟩,fun b hb=>?_,q⟩
 have e:b=s1.heap.objs.size:=by simpa using hb
 subst e
 exact I1.fpOk (xi _) (I1.hok.fresh (xi _))
theorem zSq {tg:Expr}{pins:List (Addr × Obj)}{s1:Shared}{σ:St}{H1:Hp}{R:It->Hp->Prop}{z:Str}{t:Tok}(I1:Inv X pins σ H1 s1) (ha:z.cps.all (·<128)=true) (q:R (Its z) H1):wpAny (model X.prog X.w) X.A (pyIter (.str z t)) (PIE X pins σ tg R) X.xe s1:=by
 refine wpAny_pyIter_ascii ha ?_
 refine⟨s1.heap.objs.size,[s1.heap.objs.size],_,Its z,H1,rfl,I1.kept (t':=s1.toks) fun b o e=>xn _ e,zRa s1.heap.objs.size z t,⟨xR _,_,xA _ rfl,rfl,rfl⟩,fun b hb=>?_,q⟩
 have e:b=s1.heap.objs.size:=by simpa using hb
 subst e
 exact I1.fpOk (xi _) (I1.hok.fresh (xi _))
theorem stays_list {l:List D}(ha:AbS K J S H) (r:Rep K J H d v) (e:DS.look S d=some (.lst l)):∃a xs,v=.ref a/\SqL K H a xs/\∀J' H' S',Grow J H J' H'->AbS K J' S' H'->DS.gOk S' (DS.gdOf S d)->∃ys,SqL K H' a ys/\RepL K J' H' l ys:=by
 cases d with
 | lst l=>cases e;obtain⟨a,xs,rfl,t,rl⟩:=r;exact⟨a,xs,rfl,t.sq,fun J' H' S' g _ _=>⟨xs,(t.grow g).sq,RepL.grow g _ _ rl⟩⟩
 | klst l=>cases e;obtain⟨a,xs,rfl,t,rl⟩:=r;exact⟨a,xs,rfl,t.sq,fun J' H' S' g _ _=>⟨xs,(t.grow g).sq,RepL.grow g _ _ rl⟩⟩
 | ref n=>
  obtain⟨a,ea,rfl⟩:=r
  obtain⟨c,ec,o,eo,rc⟩:=ha.at ea
  have e:S[n]?=_:=e
  rw[ec]at e;cases e
  obtain⟨xs,rfl,rl⟩:=rc
  refine⟨a,xs,rfl,.inl (.inl eo),fun J' H' S' g ha' gd=>?_⟩
  have e':S'[n]?=some (.lst l):=gd (n,.lst l) (by simp[DS.gdOf,ec])
  obtain⟨o',eo',rc'⟩:=ha'.ob n a _ (g.pre n a ea) e'
  obtain⟨ys,rfl,rl'⟩:=rc'
  exact⟨ys,.inl (.inl eo'),rl'⟩
 | _=>cases e
theorem stays_tup {l:List D}(ha:AbS K J S H) (r:Rep K J H d v) (e:DS.look S d=some (.tup l)):∃a xs,v=.ref a/\SqT K H a xs/\∀J' H',Grow J H J' H'->SqT K H' a xs/\RepL K J' H' l xs:=by
 cases d with
 | tup l=>cases e;obtain⟨a,xs,rfl,t,rl⟩:=r;exact⟨a,xs,rfl,t.sq,fun J' H' g=>⟨(t.grow g).sq,RepL.grow g _ _ rl⟩⟩
 | ktup l=>cases e;obtain⟨a,xs,rfl,t,rl⟩:=r;exact⟨a,xs,rfl,t.sq,fun J' H' g=>⟨t.sq,RepL.grow g _ _ rl⟩⟩
 | ref n=>
  obtain⟨a,ea,rfl⟩:=r
  obtain⟨c,ec,o,eo,rc⟩:=ha.at ea
  have e:S[n]?=_:=e
  rw[ec]at e;cases e
  exact False.elim rc
 | _=>cases e
theorem zWh {a:Addr}{l:List D}{gd:List (Nat × D)}(h:∀J' H' S',Grow J H J' H'->AbS K J' S' H'->DS.gOk S' gd->∃ys,SqL K H' a ys/\RepL K J' H' l ys):ItOk K J H ⟨l,gd⟩ (Itl K a) where
 go:=fun i H' J' S' ha g gd hi=>by
  obtain⟨ys,q,rl⟩:=h J' H' S' g ha gd
  exact⟨ys,ys[i]'(by rw[<- rl.length];exact hi),q,xD _⟩
 yld:=fun i H' J' S' x H'' ha g gd y d ed=>by
  obtain⟨rfl,y⟩:=y
  obtain⟨ys,q,rl⟩:=h J' H'' S' g ha gd
  obtain⟨x',ex,rx⟩:=rl.get ed
  rw[y ys q]at ex;cases ex
  exact⟨ha,.refl,rx⟩
 stop:=fun i H' J' S' ha g gd hi=>by
  obtain⟨ys,q,rl⟩:=h J' H' S' g ha gd
  exact⟨ys,q,by rw[<- rl.length];exact hi⟩
theorem zZl {a:Addr}{xs:List V}{l:List D}{gd:List (Nat × D)}(h:∀J' H',Grow J H J' H'->SqT K H' a xs/\RepL K J' H' l xs):ItOk K J H ⟨l,gd⟩ (Itt K a) where
 go:=fun i H' J' S' ha g gd hi=>by
  obtain⟨q,rl⟩:=h J' H' g
  exact⟨xs,xs[i]'(by rw[<- rl.length];exact hi),q,xD _⟩
 yld:=fun i H' J' S' x H'' ha g gd y d ed=>by
  obtain⟨rfl,y⟩:=y
  obtain⟨q,rl⟩:=h J' H'' g
  obtain⟨x',ex,rx⟩:=rl.get ed
  rw[y xs q]at ex;cases ex
  exact⟨ha,.refl,rx⟩
 stop:=fun i H' J' S' ha g gd hi=>by
  obtain⟨q,rl⟩:=h J' H' g
  exact⟨xs,q,by rw[<- rl.length];exact hi⟩
theorem zZm {x:Str}:ItOk K J H ⟨DS.chars x,[]⟩ (Its x) where
 go:=fun i H' J' S' ha g gd hi=>by
  have:(DS.chars x).length=x.cps.size:=by simp[DS.chars]
  show i<x.cps.size
  rw[<- this];exact hi
 yld:=fun i H' J' S' y H'' ha g gd yl d ed=>by
  obtain⟨rfl,c,ec,rfl⟩:=yl
  have e:(DS.chars x)[i]?=some (D.str ⟨#[c]⟩):=by
   unfold DS.chars
   rw[vm,uZ,ec];rfl
  rw[e]at ed;cases ed
  exact⟨ha,.refl,rfl⟩
 stop:=fun i H' J' S' ha g gd hi=>by
  have:(DS.chars x).length=x.cps.size:=by simp[DS.chars]
  show x.cps.size<=i
  rw[<- this];exact hi
theorem zAx {tg e:Expr}{m:DS.EM}(he:DE X K E e m) (hK:X.K=K:=by rfl):DI X K E tg e (DS.iVal m):=by
 subst hK
 refine⟨⟨fun pins s σ H R I hq1=>?_⟩⟩
 obtain⟨env,S,J,ha,hE,q⟩:=hq1
 refine thn (he.h.h pins s σ H (fun x H1=>∃J1 S1 d w,AbS X.K J1 S1 H1/\Rep X.K J1 H1 d x/\DS.zCa S1 d=some w/\∀It,ItOk X.K J1 H1 w It->R It H1) I ⟨env,S,J,ha,hE,q.bind.imp fun d S1 J1 H1 _ a1 g1 q1 x rx=>?_⟩) fun v s1 hq1=>?_
 ·obtain⟨w,ew,k⟩:=q1.lift
  exact⟨J1,S1,d,w,a1,rx,ew,k J1 H1 a1 .refl⟩
 ·obtain⟨x,H1,I1,r1,J1,S1,d,w,a1,rx,ew,k⟩:=hq1
  unfold DS.zCa at ew
  split at ew
  ·rename_i l el
   cases ew
   obtain⟨a,xs,rfl,hq,st⟩:=stays_tup a1 rx el
   cases r1
   exact zSp I1 hq (k _ (zZl st))
  ·rename_i l el
   cases ew
   obtain⟨a,xs,rfl,hq,st⟩:=stays_list a1 rx el
   cases r1
   exact zPl I1 hq (k _ (zWh st))
  ·rename_i z ez
   split at ew
   ·rename_i hz
    cases ew
    obtain rfl:=zO2 a1 rx ez
    obtain⟨t,rfl⟩:=r1
    exact zSq I1 hz (k _ zZm)
   ·cases ew
  ·cases ew
theorem zSs {lo:Int}{n:Nat}:ItOk K J H ⟨(List.range n).map fun(k:Nat)=>D.int (lo+k),[]⟩ (Itr lo n) where
 go:=fun i H' J' S' ha g gd hi=>by show i<n;simpa using hi
 yld:=fun i H' J' S' y H'' ha g gd yl d ed=>by
  obtain⟨rfl,rfl⟩:=yl
  rw[vm]at ed
  by_cases hi:i<n
  ·rw[List.getElem?_range hi]at ed
   cases ed
   exact⟨ha,.refl,rfl⟩
  ·rw[vT (by simpa using hi)]at ed
   cases ed
 stop:=fun i H' J' S' ha g gd hi=>by show n<=i;simpa using hi
theorem fits_of {i:Int}(h:DS.fits62 i=true):-(2 ^ 62)<=i/\i<2 ^ 62:=uw h
theorem zEi {tg a:Expr}{p pos:Pos}{am:DS.AM}(hg:Gl X "range") (hm:X.mg "range"=none) (ha:DA X K E [a] am) (h:nst a=true:=by rfl):DI X K E tg (.Call (.Name "range" p) [a] [] pos) (DS.zCs am):=
 ⟨(qrange1' hg hm ha.h h).imp fun σ H R ⟨env,S,J,h,hE,q⟩=>⟨env,S,J,h,hE,q.bind.imp fun ds S1 J1 H1 e1 a1 g1 q1 xs rx=>by
  obtain⟨w,ew,k⟩:=q1.lift
  have hl:=ha.len _ _ _ _ e1
  match ds,hl with
  | [d],_=>
   obtain⟨x,rfl,r⟩:=zCq (ds:=[]) rx
   cases d with
   | int j=>
    unfold DS.zHw at ew
    simp only at ew
    by_cases hf:DS.fits62 j=true
    ·rw[xf hf]at ew;cases ew
     obtain rfl:=r
     refine⟨j,rfl,(fits_of hf).1,(fits_of hf).2,k J1 H1 a1 .refl _ ?_⟩
     have e:DS.zGx 0 j=(List.range j.toNat).map fun(k:Nat)=>D.int (0+k):=by unfold DS.zGx;rw[Int.sub_zero]
     rw[e]
     exact zSs
    ·rw[xg hf]at ew;cases ew
   | _=>cases ew⟩⟩
theorem zNe {e:Expr}{m:DS.EM}{p p2 pos pos2:Pos}(hc:X.calm=true) (he:DE X K E e m) (hgl:Gl X "list") (hml:X.mg "list"=none) (hgr:Gl X "reversed") (hmr:X.mg "reversed"=none) (h:nst e=true:=by rfl) (hK:X.K=K:=by rfl):
  DF X K E (.Call (.Name "list" p) [.Call (.Name "reversed" p2) [e] [] pos2] [] pos) (DS.eUn DS.revL m):=by
 subst hK
 refine⟨(qlistrev' hc he.h hgl hml hgr hmr h).imp fun σ H Q ⟨env,S,J,ha,hE,q⟩=>⟨env,S,J,ha,hE,q.bind.imp fun d S1 J1 H1 _ a1 g1 q1 x rx=>?_⟩⟩
 obtain⟨c,ec,k⟩:=q1.lift
 unfold DS.revL at ec
 split at ec
 ·rename_i l el
  cases ec
  obtain⟨a,xs,rfl,hq,rl⟩:=zJ6 a1 rx el
  exact⟨a,xs,rfl,hq,fun p n=>k J1 H1 a1 .refl p _ n ⟨_,rfl,rl.reverse⟩⟩
 ·cases ec
structure DPs (X:Cx) (K:PySem.W.Frag) (E:XE) (pos:Pos) (keys:List (Option Expr)) (values:List Expr) (ks:List Key) (am:DS.AM):Prop where
 ex:∃trs,SPs X pos keys values trs/\∀σ H Q,(∃env S J,AbS K J S H/\RepE K J H env σ/\Post K E J H (am env S) (fun vs _ J' H'=>∀xs,RepL K J' H' vs xs->Q ((ks.map kV).zip xs) H'))->zLa trs σ H Q
 len:∀env S ds S',am env S=.ok ds S'->ds.length=ks.length
theorem zX0 {pos:Pos}:DPs X K E pos [] [] [] DS.aNil:=⟨⟨[],zRu,fun σ H Q hz2=>by obtain⟨env,S,J,ha,he,q⟩:=hz2;exact q J H ha .refl [] rfl⟩,fun _ _ _ _ e=>by cases e;rfl⟩
theorem zIf {pos kp:Pos}{x:Str}{j:_}{v:Expr}{ks:List (Option Expr)}{vs:List Expr}{kl:List Key}{m:DS.EM}{am:DS.AM}(hv:DE X K E v m) (hr:DPs X K E pos ks vs kl am):DPs X K E pos (some (.Constant (.str x) j kp)::ks) (v::vs) (.inr x::kl) (DS.zA0 m am):=by
 obtain⟨trs,hp,hq⟩:=hr.ex
 refine⟨⟨_,zOr (zOx (x:=x)) hv.h hp,fun σ H Q ⟨env,S,J,ha,he,q⟩=>⟨env,S,J,ha,he,q.bind.imp fun d S1 J1 H1 _ a1 g1 q1 y ry=>hq σ H1 _ ⟨env,S1,J1,a1,he.grow g1,q1.bind.imp fun ds S2 J2 H2 _ a2 g2 q2 xs rx=>
  q2 J2 H2 a2 .refl (y::xs) ⟨y,xs,rfl,Rep.grow g2 _ _ ry,rx⟩⟩⟩⟩,fun env S ds S' e1=>?_⟩
 unfold DS.zA0 at e1
 cases e2:m env S with
 | ok d S1=>
  rw[e2,Rs.bind_ok]at e1
  cases e3:am env S1 with
  | ok dr S2=>rw[e3,Rs.bind_ok]at e1;cases e1;simp[hr.len _ _ _ _ e3]
  | _=>rw[e3]at e1;cases e1
 | _=>rw[e2]at e1;cases e1
theorem zH1:∀{kvs acc:List (Key × V)},((acc++kvs).map (·.1)).Nodup->zF2 acc kvs=acc++kvs
 | [],acc,_=>by simp[zF2]
 | p::kvs,acc,h=>by
  have hn:(acc.any fun kv=>decide (kv.1=p.1))=false:=by
   rw[yv]
   intro z
   obtain⟨q,hq,e⟩:=yn.mp z
   rw[xX,xt]at h
   exact(List.nodup_append.mp h).2.2 q.1 (xq.mpr ⟨q,hq,rfl⟩) p.1 (xQ ..) (uw e)
  have e:putK acc p.1 p.2=acc++[p]:=by unfold putK;rw[hn];rfl
  show zF2 (putK acc p.1 p.2) kvs=_
  rw[e,zH1 (by simpa using h)]
  simp
theorem zX3 {pos:Pos}{keys:List (Option Expr)}{values:List Expr}{kl:List Key}{ks:List D}{am:DS.AM}(h:DPs X K E pos keys values kl am) (hk:ks=kl.map keyD) (nd:kl.Nodup) (hall:keys.all (·.isSome)=true:=by rfl) (hl:keys.length=values.length:=by rfl) (h0:keys≠[]:=by intro z;cases z) (h15:keys.length<=15:=by decide) (hz:kl.length<=15:=by decide):
  DE X K E (.Dict keys values pos) (DS.zT1 ks am):=by
 subst hk
 obtain⟨trs,hp,hq⟩:=h.ex
 refine⟨(zS5 hp hall hl h0 h15).imp fun σ H Q ⟨env,S,J,ha,he,q⟩ p n=>hq σ _ _ ⟨env,S++[.dct false [] []],J++[p],ha.name (o:=.dK []) (d:=.dct false [] []) n ⟨[],.inl ⟨rfl,[],rfl,rfl,rfl⟩,rfl⟩,he.grow (.name n),(Post.grow (Grow.name n) q).bind.imp fun vs S1 J1 H1 e1 a1 g1 q1 xs rx=>?_⟩⟩
 have ep:(J++[p])[S.length]?=some p:=by rw[<- ha.len,vQ (xi _)];simp
 have ep1:=g1.pre _ _ ep
 have hlen:=h.len _ _ _ _ e1
 by_cases hc:S1[S.length]?=some (.dct false [] [])
 ·rw[xf hc]at q1
  obtain⟨o,eo,rc⟩:=a1.ob _ _ _ ep1 hc
  obtain⟨zs,t,_⟩:=rc
  have ho:o=.dK []:=by
   rcases t with⟨_,kvs,rfl,e,_⟩|⟨z,_⟩
   ·cases kvs with
    | nil=>rfl
    | cons a r=>cases e
   ·cases z
  subst ho
  have lx:kl.length=xs.length:=by rw[<- hlen];exact rx.length
  have m1:(kl.zip xs).map (·.1)=kl:=by rw[List.map_fst_zip (by nofun)]
  have m2:(kl.zip xs).map (·.2)=xs:=by rw[List.map_snd_zip (by nofun)]
  refine⟨eo,kl.zip xs,?_,?_,?_⟩
  ·rw[List.zip_map_left]
   rfl
  ·rw[yb];lia
  ·rw[zH1 (acc:=[]) (by rw[ur,m1];exact nd),ur]
   refine q1 J1 _ (a1.write ep1 ⟨xs,.inl ⟨rfl,_,rfl,?_,m2.symm⟩,rx⟩) (.write ep1) (.ref p) ⟨p,ep1,rfl⟩
   rw[show kl.map keyD=((kl.zip xs).map (·.1)).map keyD by rw[m1],xP]
   rfl
 ·rw[xg hc]at q1;exact False.elim q1
end
end L2
namespace L2
open PySem PySem.Spec PyProof.Rows
open DS (D Store Exn Rs SR)
theorem zOd {K:PySem.W.Frag}{F:DS.Fn}{H:Hp}{a:Addr}{ns:List Int}{XX:XK}(h:∃S,F [.klst (ns.map D.int)] []=.ok (.bl true) S) (hS:SqL K H a (ns.map V.int)):spOf K XE0 F [.ref a] H (fun v _=>v=.bl true) XX:=by
 obtain⟨S,e⟩:=h
 refine⟨[],[],[.klst (ns.map D.int)],⟨rfl,List.nodup_nil,fun i a d e _=>by simp at e⟩,⟨.ref a,[],rfl,⟨a,ns.map V.int,rfl,?_,.ints⟩,rfl⟩,?_⟩
 ·rcases hS with h|h
  ·exact .inl ⟨h,by simp⟩
  ·exact .inr h
 ·rw[e]
  exact fun J' H' _ _ v r=>r
end L2
namespace TM
open PySem PyProof.Rows
noncomputable def dk:Keyed:=(Value.none,Value.none)
noncomputable def Cm (prog:Program) (w:World) (A:Around) (s:Shared) (κ:SortKind) (rk:Keyed->Nat) (Gd:Keyed->Prop):Prop:=
 ∀x y,Gd x->Gd y->∀(Q:Bool->Shared->Prop) (E':Value->Shared->Prop),Q (decide (rk x<rk y)) s->wpAny (model prog w) A (keyLt' κ x.1 y.1) Q E' s
structure SB (κ:SortKind) (a₀:Array Keyed) (st:SortSt):Prop where
 perm:(arrOf st).Perm a₀
 kind:kindOf st=κ
 failed:failedOf st=none
section
variable {κ:SortKind}{a₀:Array Keyed}{st:SortSt}{rk:Keyed->Nat}
theorem SB.size (h:SB κ a₀ st):(arrOf st).size=a₀.size:=h.perm.size_eq
theorem SB.set (h:SB κ a₀ st) {xs:Array Keyed}(hp:xs.Perm (arrOf st)):SB κ a₀ (setArr st xs):=⟨hp.trans h.perm,h.kind,h.failed⟩
noncomputable def ky (rk:Keyed->Nat) (xs:Array Keyed) (i:Nat):Nat:=rk (xs.getD i dk)
noncomputable def So (rk:Keyed->Nat) (xs:Array Keyed) (a b:Nat):Prop:=∀i j,a<=i->i<=j->j<b->ky rk xs i<=ky rk xs j
noncomputable def Fa (rk:Keyed->Nat) (xs:Array Keyed) (a b:Nat):Prop:=∀i j,a<=i->i<=j->j<b->ky rk xs j<=ky rk xs i
noncomputable def Out (a b:Nat) (xs ys:Array Keyed):Prop:=∀k,k<a\/b<=k->ys[k]?=xs[k]?
theorem Out.refl {a b:Nat}{xs:Array Keyed}:Out a b xs xs:=fun _ _=>rfl
theorem Out.trans {a b:Nat}{xs ys zs:Array Keyed}(h:Out a b xs ys) (h':Out a b ys zs):Out a b xs zs:=fun k hk=>(h' k hk).trans (h k hk)
theorem Out.mono {a b a' b':Nat}{xs ys:Array Keyed}(h:Out a b xs ys) (h1:a'<=a) (h2:b<=b'):Out a' b' xs ys:=fun k hk=>h k (by nofun)
theorem zWn {xs ys:Array Keyed}{i j:Nat}(h:xs[i]?=ys[j]?):xs.getD i dk=ys.getD j dk:=by
 rw[vV,vV,h]
theorem zN1 {xs ys:Array Keyed}{i j:Nat}(h:xs[i]?=ys[j]?):ky rk xs i=ky rk ys j:=by unfold ky;rw[zWn h]
theorem Out.ky {a b k:Nat}{xs ys:Array Keyed}(h:Out a b xs ys) (hk:k<a\/b<=k):TM.ky rk ys k=TM.ky rk xs k:=zN1 (h k hk)
theorem So.out {a b c d:Nat}{xs ys:Array Keyed}(h:So rk xs c d) (o:Out a b xs ys) (hd:d<=a\/b<=c):So rk ys c d:=fun i j h1 h2 h3=>by
 rw[o.ky (by nofun),o.ky (by nofun)];exact h i j h1 h2 h3
theorem zPg {xs:Array Keyed}{i j:Nat}(hj:j<=xs.size) (k:Nat):ky rk (mirror xs i j ((j-i) / 2)) k=if i<=k/\k<j then ky rk xs (i+j-1-k)else ky rk xs k:=by
 have e:=getElem?_mirror_all (i:=i) hj k
 split at e <;> rename_i h1
 ·rw[xf h1];exact zN1 e
 ·rw[xg h1];exact zN1 e
theorem zDk {xs:Array Keyed}{i j:Nat}(hj:j<=xs.size) (he:∀k,i<=k->k<j->ky rk xs k=ky rk xs (j-1)) (k:Nat):ky rk (mirror xs i j ((j-i) / 2)) k=ky rk xs k:=by
 rw[zPg hj]
 split
 ·rw[he _ (by nofun) (by nofun),he k (by nofun) (by nofun)]
 ·rfl
theorem zVv {xs:Array Keyed}{i j:Nat}(hj:j<=xs.size):Out i j xs (mirror xs i j ((j-i) / 2)):=fun k hk=>by
 rw[getElem?_mirror_all hj,xg (by nofun)]
theorem zU3 {xs:Array Keyed}{src d:Nat}(hs:src<xs.size) (hd:d<=src) (k:Nat):ky rk (bubble xs src d) k=if k=src-d then ky rk xs src else if src-d<k/\k<=src then ky rk xs (k-1)else ky rk xs k:=by
 have e:=getElem?_bubble hs d hd k
 split at e <;> rename_i h1
 ·rw[xf h1];exact zN1 e
 ·rw[xg h1]
  split at e <;> rename_i h2
  ·rw[xf h2];exact zN1 e
  ·rw[xg h2];exact zN1 e
theorem zVw {xs:Array Keyed}{src d:Nat}(hs:src<xs.size) (hd:d<=src):Out (src-d) (src+1) xs (bubble xs src d):=fun k hk=>by
 rw[getElem?_bubble hs d hd,xg (by nofun),xg (by nofun)]
end
section
variable {prog:Program}{w:World}{A:Around}{E:Value->Shared->Prop}{s:Shared}{κ:SortKind}{a₀:Array Keyed}{rk:Keyed->Nat}{Gd:Keyed->Prop}
theorem yA4 {xs:Array Keyed}(hp:xs.Perm a₀) (hg:∀x∈a₀,Gd x) {i:Nat}(hi:i<a₀.size):xs[i]?=some (xs.getD i dk)/\Gd (xs.getD i dk):=by
 have hi':i<xs.size:=by rw[hp.size_eq];exact hi
 have e:xs.getD i dk=xs[i]:=by simp[Array.getD,hi']
 refine⟨by rw[e];exact getElem?_pos _ i hi',?_⟩
 rw[e]
 exact hg _ (hp.mem_iff.mp (Array.getElem_mem hi'))
theorem w_lt (C:Cm prog w A s κ rk Gd) {st:SortSt}{x y:Keyed}{Q:Option Bool->SortSt->Prop}(hk:kindOf st=κ) (hx:Gd x) (hy:Gd y) (h:Q (some (decide (rk x<rk y))) st):wpS (model prog w) A E s (lt' x y) Q st:=by
 rw[lt'_eq]
 refine xB (wpS_get ?_)
 rw[hk]
 exact xB (wpS_lift (u6 (C x y hx hy _ _ ⟨rfl,xN h⟩)))
theorem zTj {st:SortSt}{xs:Array Keyed}{i:Nat}{x:Keyed}{Q:Keyed->SortSt->Prop}(e:xs[i]?=some x) (h:Q x st):wpS (model prog w) A E s (elem' xs i) Q st:=by
 rw[elem'_eq,e];exact xN h
theorem w_at (C:Cm prog w A s κ rk Gd) (hg:∀x∈a₀,Gd x) {st:SortSt}{i j:Nat}{Q:Option Bool->SortSt->Prop}(B:SB κ a₀ st) (hi:i<a₀.size) (hj:j<a₀.size)
  (h:Q (some (decide (ky rk (arrOf st) i<ky rk (arrOf st) j))) st):wpS (model prog w) A E s (ltAt' i j) Q st:=by
 obtain⟨e1,g1⟩:=yA4 B.perm hg hi
 obtain⟨e2,g2⟩:=yA4 B.perm hg hj
 rw[ltAt'_eq]
 refine xB (wpS_get ?_)
 exact xB (zTj e1 (xB (zTj e2 (w_lt C B.kind g1 g2 h))))
noncomputable def ascL (lo a nrem:Nat):StateT SortSt Sem AscSt:=forIn [a:nrem] ((none,a):AscSt) fun _ z=>do
 let x <- ltAt' (lo+z.snd) (lo+z.snd-1)
 match x with
 | some smaller=>if smaller=true then pure (ForInStep.done (none,z.snd))else pure (ForInStep.yield (none,z.snd+1))
 | _=>pure (ForInStep.done (some none,z.snd))
noncomputable def zNx (lo n nrem:Nat):StateT SortSt Sem (Option Nat):=do
 reverseSlice' lo (lo+n)
 let z <- ascL lo n nrem
 match z.fst with
 | some r=>pure r
 | none=>pure (some z.snd)
noncomputable def zT6 (lo n nrem:Nat):StateT SortSt Sem DescSt:=forIn [n:nrem] ((none,n,0):DescSt) fun _ z=>do
 let x <- ltAt' (lo+z.snd.fst) (lo+z.snd.fst-1)
 match x with
 | some smaller=>
  if smaller=true then
   if z.snd.snd > 0 then do
    reverseSlice' (lo+z.snd.fst-(z.snd.snd+1)) (lo+z.snd.fst)
    pure (ForInStep.yield (none,z.snd.fst+1,0))
   else pure (ForInStep.yield (none,z.snd.fst+1,0))
  else do
   let x <- ltAt' (lo+z.snd.fst-1) (lo+z.snd.fst)
   match x with
   | some larger=>if larger=true then pure (ForInStep.done (none,z.snd.fst,z.snd.snd))else pure (ForInStep.yield (none,z.snd.fst+1,z.snd.snd+1))
   | _=>pure (ForInStep.done (some none,z.snd.fst,z.snd.snd))
 | _=>pure (ForInStep.done (some none,z.snd.fst,z.snd.snd))
noncomputable def zP0 (lo n nrem:Nat):StateT SortSt Sem (Option Nat):=do
 liftM (rule "list.sort.descending-run")
 let z <- zT6 lo (n+1) nrem
 match z.fst with
 | some r=>pure r
 | none=>
  if z.snd.snd > 0 then do
   reverseSlice' (lo+z.snd.fst-(z.snd.snd+1)) (lo+z.snd.fst)
   zNx lo z.snd.fst nrem
  else zNx lo z.snd.fst nrem
theorem count_eq (lo nrem:Nat):countRun' lo nrem=(do
  let z <- ascL lo 1 nrem
  match z.fst with
  | some r=>pure r
  | none=>
   if(z.snd == nrem)=true then pure (some z.snd)
   else if z.snd > 1 then do
    let x <- ltAt' lo (lo+z.snd-1)
    match x with
    | some rose=>if rose=true then pure (some z.snd)else do
      reverseSlice' lo (lo+z.snd)
      zP0 lo z.snd nrem
    | _=>pure none
   else zP0 lo z.snd nrem):=by
 rw[countRun'_eq]
 unfold zP0 zNx zT6 ascL
 refine congrArg (Bind.bind _) ?_
 funext z
 obtain⟨r,n⟩:=z
 cases r with
 | some r=>rfl
 | none=>
  dsimp only
  split
  ·rfl
  ·split
   ·congr 1;funext x
    cases x with
    | none=>rfl
    | some rose=>
     dsimp only
     split
     ·rfl
     ·congr 1;funext _r
      congr 1;funext _u;congr 1;congr 1;funext s2;obtain⟨r2,n2,q2⟩:=s2
      cases r2 with
      | some r2=>rfl
      | none=>
       dsimp only
       split
       ·congr 1;funext _v;congr 1;funext _w;congr 1;funext s3;obtain⟨r3,n3⟩:=s3;cases r3 <;> rfl
       ·congr 1;funext _w;congr 1;funext s3;obtain⟨r3,n3⟩:=s3;cases r3 <;> rfl
   ·congr 1;funext _u;congr 1;congr 1;funext s2;obtain⟨r2,n2,q2⟩:=s2
    cases r2 with
    | some r2=>rfl
    | none=>
     dsimp only
     split
     ·congr 1;funext _v;congr 1;funext _w;congr 1;funext s3;obtain⟨r3,n3⟩:=s3;cases r3 <;> rfl
     ·congr 1;funext _w;congr 1;funext s3;obtain⟨r3,n3⟩:=s3;cases r3 <;> rfl
structure Ran (κ:SortKind) (a₀:Array Keyed) (lo hi:Nat) (st st':SortSt):Prop where
 b:SB κ a₀ st'
 pend:pendingOf st'=pendingOf st
 out:Out lo hi (arrOf st) (arrOf st')
theorem Ran.refl {lo hi:Nat}{st:SortSt}(B:SB κ a₀ st):Ran κ a₀ lo hi st st:=⟨B,rfl,.refl⟩
theorem Ran.trans {lo hi:Nat}{st st1 st2:SortSt}(a:Ran κ a₀ lo hi st st1) (b:Ran κ a₀ lo hi st1 st2):Ran κ a₀ lo hi st st2:=⟨b.b,b.pend.trans a.pend,a.out.trans b.out⟩
theorem Ran.mono {lo hi lo' hi':Nat}{st st1:SortSt}(a:Ran κ a₀ lo hi st st1) (h1:lo'<=lo) (h2:hi<=hi'):Ran κ a₀ lo' hi' st st1:=⟨a.b,a.pend,a.out.mono h1 h2⟩
theorem w_rev {st:SortSt}{i j:Nat}{Q:Unit->SortSt->Prop}(h:Q () (setArr st (mirror (arrOf st) i j ((j-i) / 2)))):wpS (model prog w) A E s (reverseSlice' i j) Q st:=by
 rw[reverseSlice'_eq];exact wpS_modify h
theorem zHx {st:SortSt}{i j:Nat}(B:SB κ a₀ st) (hj:j<=a₀.size):Ran κ a₀ i j st (setArr st (mirror (arrOf st) i j ((j-i) / 2))):=⟨B.set (mirror_perm _ _ _ _),rfl,zVv (by rw[B.size];exact hj)⟩
theorem zXk (C:Cm prog w A s κ rk Gd) (hg:∀x∈a₀,Gd x) {st:SortSt}{lo a nrem:Nat}{Q:AscSt->SortSt->Prop}(hn:lo+nrem<=a₀.size) (ha:1<=a) (han:a<=nrem) (B:SB κ a₀ st) (hs:So rk (arrOf st) lo (lo+a))
  (h:∀n,a<=n->n<=nrem->So rk (arrOf st) lo (lo+n)->(n=nrem\/ky rk (arrOf st) (lo+n)<ky rk (arrOf st) (lo+n-1))->Q (none,n) st):wpS (model prog w) A E s (ascL lo a nrem) Q st:=by
 unfold ascL
 refine wpS_forRange (I:=fun x c st'=>st'=st/\c=(none,x)/\So rk (arrOf st) lo (lo+x)) ?step ?fin ⟨rfl,rfl,hs⟩
 case fin=>
  rintro c st' ⟨rfl,rfl,hs'⟩
  rw[show max a nrem=nrem by nofun]at hs' ⊢
  exact h nrem han (xi _) hs' (.inl rfl)
 case step=>
  rintro x c st' hax hxn ⟨rfl,rfl,hs'⟩
  dsimp only
  refine xB (w_at C hg B (by nofun) (by nofun) ?_)
  by_cases q:ky rk (arrOf st') (lo+x)<ky rk (arrOf st') (lo+x-1)
  ·rw[xv q]
   exact xN (h x hax (by nofun) hs' (.inr q))
  ·rw[xu q]
   refine xN ⟨rfl,rfl,fun i j h1 hij hj=>?_⟩
   by_cases hjx:j<lo+x
   ·exact hs' i j h1 hij hjx
   ·obtain rfl:j=lo+x:=by nofun
    by_cases hi':i=lo+x
    ·rw[hi'];exact xi _
    ·exact xk (hs' i (lo+x-1) h1 (by nofun) (by nofun)) (Nat.not_lt.mp q)
theorem zTh (C:Cm prog w A s κ rk Gd) (hg:∀x∈a₀,Gd x) {st:SortSt}{lo n nrem:Nat}{Q:Option Nat->SortSt->Prop}(hn:lo+nrem<=a₀.size) (h1:1<=n) (hnn:n<=nrem) (B:SB κ a₀ st) (hs:Fa rk (arrOf st) lo (lo+n))
  (h:∀m st',Ran κ a₀ lo (lo+nrem) st st'->1<=m->m<=nrem->So rk (arrOf st') lo (lo+m)->Q (some m) st'):wpS (model prog w) A E s (zNx lo n nrem) Q st:=by
 unfold zNx
 have R:=zHx (i:=lo) (j:=lo+n) B (by nofun)
 have hsz:lo+n<=(arrOf st).size:=by rw[B.size];lia
 refine xB (w_rev (xB (zXk C hg hn h1 hnn R.b ?_ fun m hm1 hm2 hsm _=>xN (h m _ (R.mono (xi _) (by nofun)) (by nofun) hm2 hsm))))
 intro i j h0 hij hj
 show ky rk (mirror (arrOf st) lo (lo+n) ((lo+n-lo) / 2)) i<=ky rk (mirror (arrOf st) lo (lo+n) ((lo+n-lo) / 2)) j
 rw[zPg hsz,zPg hsz,xf (by nofun),xf (by nofun)]
 exact hs _ _ (by nofun) (by nofun) (by nofun)
theorem zXj (C:Cm prog w A s κ rk Gd) (hg:∀x∈a₀,Gd x) {st:SortSt}{lo n nrem:Nat}{Q:DescSt->SortSt->Prop}(hn:lo+nrem<=a₀.size) (h1:1<=n) (hnn:n<=nrem) (B:SB κ a₀ st) (hs:Fa rk (arrOf st) lo (lo+n))
  (h:∀m neq st',Ran κ a₀ lo (lo+nrem) st st'->n<=m->m<=nrem->Fa rk (arrOf st') lo (lo+m)->neq+1<=m->(∀i,lo+m-(neq+1)<=i->i<lo+m->ky rk (arrOf st') i=ky rk (arrOf st') (lo+m-1))->Q (none,m,neq) st'):
  wpS (model prog w) A E s (zT6 lo n nrem) Q st:=by
 unfold zT6
 refine wpS_forRange (I:=fun x c st'=>∃neq,c=(none,x,neq)/\Ran κ a₀ lo (lo+nrem) st st'/\Fa rk (arrOf st') lo (lo+x)/\neq+1<=x/\(∀i,lo+x-(neq+1)<=i->i<lo+x->ky rk (arrOf st') i=ky rk (arrOf st') (lo+x-1))) ?step ?fin
  ⟨0,rfl,.refl B,hs,by nofun,fun i h1 h2=>by congr 1;lia⟩
 case fin=>
  rintro c st' ⟨neq,rfl,R,hs',hq,he⟩
  rw[show max n nrem=nrem by nofun]at hs' hq he ⊢
  exact h nrem neq st' R hnn (xi _) hs' hq he
 case step=>
  rintro x c st' hax hxn ⟨neq,rfl,R,hs',hq,he⟩
  dsimp only
  have hsz:lo+x<=(arrOf st').size:=by rw[R.b.size];lia
  refine xB (w_at C hg R.b (by nofun) (by nofun) ?_)
  by_cases q:ky rk (arrOf st') (lo+x)<ky rk (arrOf st') (lo+x-1)
  ·rw[xv q]
   simp only[xj]
   have st1:∀xs:Array Keyed,(∀k,ky rk xs k=ky rk (arrOf st') k)->Fa rk xs lo (lo+(x+1)):=fun xs hk i j h0 hij hj=>by
    rw[hk,hk]
    by_cases hjx:j<lo+x
    ·exact hs' i j h0 hij hjx
    ·obtain rfl:j=lo+x:=by nofun
     by_cases hi':i=lo+x
     ·rw[hi'];exact xi _
     ·exact xk (vM q) (hs' i (lo+x-1) h0 (by nofun) (by nofun))
   by_cases hneq:neq > 0
   ·rw[xf hneq]
    have R2:=zHx (i:=lo+x-(neq+1)) (j:=lo+x) R.b (by nofun)
    exact xB (w_rev (xN ⟨0,rfl,R.trans (R2.mono (by nofun) (by nofun)),st1 _ (zDk hsz he),by nofun,fun i h1 h2=>by congr 1;lia⟩))
   ·rw[xg hneq]
    exact xN ⟨0,rfl,R,st1 _ (fun _=>rfl),by nofun,fun i h1 h2=>by congr 1;lia⟩
  ·rw[xu q]
   simp only[vo,xV]
   refine xB (w_at C hg R.b (by nofun) (by nofun) ?_)
   by_cases ql:ky rk (arrOf st') (lo+x-1)<ky rk (arrOf st') (lo+x)
   ·rw[xv ql]
    exact xN (h x neq st' R hax (by nofun) hs' hq he)
   ·rw[xu ql]
    have ex:ky rk (arrOf st') (lo+x)=ky rk (arrOf st') (lo+x-1):=by nofun
    refine xN ⟨neq+1,rfl,R,fun i j h0 hij hj=>?_,by nofun,fun i h1 h2=>?_⟩
    ·by_cases hjx:j<lo+x
     ·exact hs' i j h0 hij hjx
     ·obtain rfl:j=lo+x:=by nofun
      by_cases hi':i=lo+x
      ·rw[hi'];exact xi _
      ·rw[ex];exact hs' i (lo+x-1) h0 (by nofun) (by nofun)
    ·rw[show lo+(x+1)-1=lo+x by nofun]
     by_cases hix:i=lo+x
     ·rw[hix]
     ·rw[ex];exact he i (by nofun) (by nofun)
theorem zTi (C:Cm prog w A s κ rk Gd) (hg:∀x∈a₀,Gd x) {st:SortSt}{lo n nrem:Nat}{Q:Option Nat->SortSt->Prop}(hn:lo+nrem<=a₀.size) (hnn:n+1<=nrem) (B:SB κ a₀ st) (hs:Fa rk (arrOf st) lo (lo+(n+1)))
  (h:∀m st',Ran κ a₀ lo (lo+nrem) st st'->1<=m->m<=nrem->So rk (arrOf st') lo (lo+m)->Q (some m) st'):wpS (model prog w) A E s (zP0 lo n nrem) Q st:=by
 unfold zP0
 refine xB (wpS_lift (vG ⟨rfl,xB (zXj C hg hn (by nofun) hnn B hs fun m neq st' R hm1 hm2 hs' hq he=>?_)⟩))
 dsimp only
 have hsz:lo+m<=(arrOf st').size:=by rw[R.b.size];lia
 by_cases hneq:neq > 0
 ·rw[xf hneq]
  have R2:=zHx (i:=lo+m-(neq+1)) (j:=lo+m) R.b (by nofun)
  refine xB (w_rev (zTh C hg hn (by nofun) hm2 R2.b (fun i j h0 hij hj=>?_) fun m' st'' R3 a1 a2 a3=>h m' st'' ((R.trans (R2.mono (by nofun) (by nofun))).trans R3) a1 a2 a3))
  show ky rk (mirror (arrOf st') _ _ _) j<=ky rk (mirror (arrOf st') _ _ _) i
  rw[zDk hsz he,zDk hsz he]
  exact hs' i j h0 hij hj
 ·rw[xg hneq]
  exact zTh C hg hn (by nofun) hm2 R.b hs' fun m' st'' R3 a1 a2 a3=>h m' st'' (R.trans R3) a1 a2 a3
theorem w_count (C:Cm prog w A s κ rk Gd) (hg:∀x∈a₀,Gd x) {st:SortSt}{lo nrem:Nat}{Q:Option Nat->SortSt->Prop}(hn:lo+nrem<=a₀.size) (h1:1<=nrem) (B:SB κ a₀ st)
  (h:∀m st',Ran κ a₀ lo (lo+nrem) st st'->1<=m->m<=nrem->So rk (arrOf st') lo (lo+m)->Q (some m) st'):wpS (model prog w) A E s (countRun' lo nrem) Q st:=by
 rw[count_eq]
 refine xB (zXk C hg hn (xi 1) h1 B (fun i j h0 hij hj=>Nat.le_of_eq (congrArg _ (show i=j by nofun))) fun n hn1 hn2 hsn hor=>?_)
 dsimp only
 by_cases hnn:n=nrem
 ·rw[xf (by simpa using hnn)]
  exact xN (h n st (.refl B) hn1 hn2 hsn)
 ·rw[xg (by simpa using hnn)]
  have hlt:=hor.resolve_left hnn
  by_cases hgt:n > 1
  ·rw[xf hgt]
   refine xB (w_at C hg B (by nofun) (by nofun) ?_)
   by_cases hr:ky rk (arrOf st) lo<ky rk (arrOf st) (lo+n-1)
   ·rw[xv hr]
    exact xN (h n st (.refl B) hn1 hn2 hsn)
   ·rw[xu hr]
    have hsz:lo+n<=(arrOf st).size:=by rw[B.size];lia
    have hall:∀k,lo<=k->k<lo+n->ky rk (arrOf st) k=ky rk (arrOf st) (lo+n-1):=fun k hk0 hk=>by
     have a1:=hsn lo k (xi _) hk0 hk
     have a2:=hsn k (lo+n-1) hk0 (by nofun) (by nofun)
     lia
    have R2:=zHx (i:=lo) (j:=lo+n) B (by nofun)
    refine xB (w_rev (zTi C hg hn (by nofun) R2.b (fun i j h0 hij hj=>?_) fun m' st'' R3 a1 a2 a3=>h m' st'' ((R2.mono (xi _) (by nofun)).trans R3) a1 a2 a3))
    show ky rk (mirror (arrOf st) _ _ _) j<=ky rk (mirror (arrOf st) _ _ _) i
    rw[zDk hsz hall,zDk hsz hall]
    by_cases hjn:j<lo+n
    ·rw[hall i (by nofun) (by nofun),hall j (by nofun) hjn];exact xi _
    ·obtain rfl:j=lo+n:=by nofun
     by_cases hi':i=lo+n
     ·rw[hi'];exact xi _
     ·rw[hall i (by nofun) (by nofun)];exact vM hlt
  ·rw[xg hgt]
   obtain rfl:n=1:=by nofun
   refine zTi C hg hn (by nofun) B (fun i j h0 hij hj=>?_) h
   by_cases hi':i=j
   ·rw[hi'];exact xi _
   ·obtain rfl:i=lo:=by nofun
    obtain rfl:j=i+1:=by nofun
    exact vM hlt
end
end TM
namespace TM
open PySem PyProof.Rows
section
variable {prog:Program}{w:World}{A:Around}{E:Value->Shared->Prop}{s:Shared}{κ:SortKind}{a₀:Array Keyed}{rk:Keyed->Nat}{Gd:Keyed->Prop}
theorem yAa (C:Cm prog w A s κ rk Gd) (hg:∀x∈a₀,Gd x) {st:SortSt}{lo n ok:Nat}{Q:Bool->SortSt->Prop}(hn:lo+n<=a₀.size) (hok:ok<=n) (B:SB κ a₀ st) (hs:So rk (arrOf st) lo (lo+ok))
  (h:∀st',Ran κ a₀ lo (lo+n) st st'->So rk (arrOf st') lo (lo+n)->Q true st'):wpS (model prog w) A E s (binarySort' lo n ok) Q st:=by
 rw[binarySort'_eq]
 refine xB (wpS_mono (wpS_forRange (I:=fun k c st'=>c=(none,())/\Ran κ a₀ lo (lo+n) st st'/\So rk (arrOf st') lo (lo+min k n)) (Q:=fun c st'=>c=(none,())/\Ran κ a₀ lo (lo+n) st st'/\So rk (arrOf st') lo (lo+n)) ?step ?fin ?init) ?post)
 case post=>
  rintro c st' ⟨rfl,R,hs'⟩
  exact xN (h st' R hs')
 case init=>
  refine⟨rfl,.refl B,fun i j h0 hij hj=>?_⟩
  by_cases h1:ok=0
  ·exact Nat.le_of_eq (congrArg _ (show i=j by nofun))
  ·exact hs i j h0 hij (by nofun)
 case fin=>
  rintro c st' ⟨hc,R,hs'⟩
  rw[show min (max (max ok 1) n) n=n by nofun]at hs'
  exact⟨hc,R,hs'⟩
 case step=>
  rintro k c st' hak hkn ⟨rfl,R,hs'⟩
  rw[show min k n=k by nofun]at hs'
  have hk:lo+k<a₀.size:=by nofun
  refine xB (wpS_mono (wpS_forRange (I:=fun x c st''=>st''=st'/\∃l r,c=(none,l,r)/\l<=r/\r<=k/\r-l<=k-x/\(∀i,i<l->ky rk (arrOf st') (lo+i)<=ky rk (arrOf st') (lo+k))/\(∀i,r<=i->i<k->ky rk (arrOf st') (lo+k)<ky rk (arrOf st') (lo+i)))
   (Q:=fun c st''=>st''=st'/\∃l r,c=(none,l,r)/\l<=k/\(∀i,i<l->ky rk (arrOf st') (lo+i)<=ky rk (arrOf st') (lo+k))/\(∀i,l<=i->i<k->ky rk (arrOf st') (lo+k)<ky rk (arrOf st') (lo+i))) ?istep ?ifin ?iinit) ?ipost)
  case iinit=>exact⟨rfl,0,k,rfl,by nofun,by nofun,by nofun,fun i hi=>by nofun,fun i h1 h2=>by nofun⟩
  case ifin=>
   rintro c st'' ⟨rfl,l,r,rfl,hlr,hrk,hm,hlo,hhi⟩
   obtain rfl:l=r:=by nofun
   exact⟨rfl,l,l,rfl,hrk,hlo,hhi⟩
  case istep=>
   rintro x c st'' _ hxk ⟨rfl,l,r,rfl,hlr,hrk,hm,hlo,hhi⟩
   dsimp only
   by_cases hge:l >= r
   ·rw[xf hge]
    obtain rfl:l=r:=by nofun
    exact xN ⟨rfl,l,l,rfl,hrk,hlo,hhi⟩
   ·rw[xg hge]
    refine xB (w_at C hg R.b hk (by nofun) ?_)
    by_cases q:ky rk (arrOf st'') (lo+k)<ky rk (arrOf st'') (lo+(l+r) / 2)
    ·rw[xv q]
     exact xN ⟨rfl,l,(l+r) / 2,rfl,by nofun,by nofun,by nofun,hlo,fun i h1 h2=>xC q (hs' _ _ (by nofun) (by nofun) (by nofun))⟩
    ·rw[xu q]
     exact xN ⟨rfl,(l+r) / 2+1,r,rfl,by nofun,by nofun,by nofun,fun i h1=>xk (hs' (lo+i) (lo+(l+r) / 2) (by nofun) (by nofun) (by nofun)) (Nat.not_lt.mp q),hhi⟩
  case ipost=>
   rintro c st'' ⟨rfl,l,r,rfl,hlk,hlo,hhi⟩
   show wpS _ _ _ _ (do moveDown' (lo+k) (lo+l);pure (ForInStep.yield (none,()))) _ _
   rw[moveDown'_eq]
   have hks:lo+k<(arrOf st'').size:=by rw[R.b.size];exact hk
   have ob:=zVw (d:=lo+k-(lo+l)) hks (by nofun)
   refine xB (wpS_modify (xN ⟨rfl,R.trans ⟨R.b.set (bubble_perm _ _ _),rfl,ob.mono (by nofun) (by nofun)⟩,?_⟩))
   rw[show min (k+1) n=k+1 by nofun]
   intro i j h0 hij hj
   show ky rk (bubble (arrOf st'') (lo+k) (lo+k-(lo+l))) i<=ky rk (bubble (arrOf st'') (lo+k) (lo+k-(lo+l))) j
   rw[zU3 hks (by nofun),zU3 hks (by nofun),show lo+k-(lo+k-(lo+l))=lo+l by nofun]
   have lo':∀i,lo<=i->i<lo+l->ky rk (arrOf st'') i<=ky rk (arrOf st'') (lo+k):=fun i h1 h2=>by
    have:=hlo (i-lo) (by nofun)
    rwa[show lo+(i-lo)=i by nofun]at this
   have hi':∀i,lo+l<=i->i<lo+k->ky rk (arrOf st'') (lo+k)<=ky rk (arrOf st'') i:=fun i h1 h2=>by
    have:=hhi (i-lo) (by nofun) (by nofun)
    rw[show lo+(i-lo)=i by nofun]at this
    exact vM this
   repeat' split
   all_goals first
    | (exfalso;lia)
    | exact xi _
    | exact lo' _ (by nofun) (by nofun)
    | exact hi' _ (by nofun) (by nofun)
    | exact hs' _ _ (by nofun) (by nofun) (by nofun)
end
end TM
namespace TM
open PySem PyProof.Rows
section
variable {rk:Keyed->Nat}
noncomputable abbrev Pw (rk:Keyed->Nat) (l:List Keyed):Prop:=l.Pairwise fun x y=>rk x<=rk y
theorem getD_list (a:Array Keyed) (i:Nat) (h:i<a.size):a.getD i dk=a.toList[i]'(by simpa using h):=by simp[Array.getD,h]
theorem So.pw {a:Array Keyed}(h:So rk a 0 a.size):Pw rk a.toList:=by
 rw[Pw,List.pairwise_iff_getElem]
 intro i j hi hj hij
 have:=h i j (by nofun) (by nofun) (by simpa using hj)
 unfold ky at this
 rwa[getD_list a i (by simpa using hi),getD_list a j (by simpa using hj)]at this
variable {a b out:Array Keyed}{ia ib k:Nat}
variable {na nb:Nat}
end
end TM
namespace TM
open PySem PyProof.Rows
section
variable {prog:Program}{w:World}{A:Around}{E:Value->Shared->Prop}{s:Shared}{κ:SortKind}{a₀:Array Keyed}{rk:Keyed->Nat}{Gd:Keyed->Prop}
theorem zSi (n:Nat) (h:n<64):minRun' n n 0=n:=by
 match n,h with
 | 0,_=>rfl
 | n+1,h=>
  show(if n+1<64 then n+1+0 else minRun' n ((n+1) / 2) (max 0 ((n+1) % 2)))=n+1
  rw[xf h]
theorem zUh {γ:Type}{c:Prop}[Decidable c] {st:SortSt}{m n:StateT SortSt Sem γ}{Q:γ->SortSt->Prop}(h1:c->wpS (model prog w) A E s m Q st) (h2:¬ c->wpS (model prog w) A E s n Q st):wpS (model prog w) A E s (if c then m else n) Q st:=by
 split
 ·exact h1 ‹_›
 ·exact h2 ‹_›
theorem w_sr (C:Cm prog w A s κ rk Gd) (hz:a₀.size<=63) (hg:∀x∈a₀,Gd x) {st:SortSt}{Q:Unit->SortSt->Prop}(B:SB κ a₀ st) (hp:pendingOf st=#[])
  (h:∀st',SB κ a₀ st'->So rk (arrOf st') 0 a₀.size->Q () st'):wpS (model prog w) A E s sortRuns' Q st:=by
 rw[sortRuns'_eq]
 refine xB (wpS_get ?_)
 dsimp only
 rw[B.size,zSi _ (by nofun)]
 refine xB (wpS_mono (wpS_forRange (I:=fun x c st'=>∃lo p,c=(none,lo)/\SB κ a₀ st'/\pendingOf st'=List.toArray p/\((lo=0/\p=[]/\x<=lo)\/(lo=a₀.size/\p.length<=1/\So rk (arrOf st') 0 a₀.size)))
  (Q:=fun c st'=>∃p lo,c=(none,lo)/\SB κ a₀ st'/\pendingOf st'=List.toArray p/\p.length<=1/\So rk (arrOf st') 0 a₀.size) ?step ?fin ?init) ?post)
 case init=>exact⟨0,[],rfl,B,hp,.inl ⟨rfl,rfl,by nofun⟩⟩
 case fin=>
  rintro c st' ⟨lo,p,rfl,B',hp',q⟩
  rcases q with⟨rfl,rfl,q⟩|⟨rfl,q1,q2⟩
  ·exact⟨[],_,rfl,B',hp',by simp,fun i j h1 h2 h3=>by nofun⟩
  ·exact⟨p,_,rfl,B',hp',q1,q2⟩
 case post=>
  rintro c st' ⟨p,lo,rfl,B',hp',hl,hs⟩
  dsimp only
  refine xB (wpS_mono (wpS_forRange (I:=fun x c st2=>c=(none,())/\SB κ a₀ st2/\pendingOf st2=List.toArray p/\So rk (arrOf st2) 0 a₀.size)
   (Q:=fun c st2=>c=(none,())/\SB κ a₀ st2/\So rk (arrOf st2) 0 a₀.size) ?s2 ?f2 ?i2) ?p2)
  case i2=>exact⟨rfl,B',hp',hs⟩
  case f2=>
   rintro c st2 ⟨rfl,B2,hp2,hs2⟩
   exact⟨rfl,B2,hs2⟩
  case p2=>
   rintro c st2 ⟨rfl,B2,hs2⟩
   exact xN (h st2 B2 hs2)
  case s2=>
   rintro x c st2 _ hx ⟨rfl,B2,hp2,hs2⟩
   refine xB (wpS_get ?_)
   rw[hp2]
   refine zUh (fun q=>?_) fun q=>?_
   ·exact xN ⟨rfl,B2,hs2⟩
   ·exact absurd hl (by simpa using q)
 case step=>
  rintro x c st' _ hx ⟨lo,p,rfl,B',hp',q⟩
  dsimp only
  refine zUh (fun q1=>?_) fun q1=>?_
  ·rcases q with⟨rfl,rfl,q⟩|⟨rfl,q3,q4⟩
   ·exact xN ⟨[],_,rfl,B',hp',by simp,fun i j h1 h2 h3=>by nofun⟩
   ·exact xN ⟨p,_,rfl,B',hp',q3,q4⟩
  obtain⟨rfl,rfl,q⟩:lo=0/\p=[]/\x<=lo:=by
   rcases q with q|⟨rfl,_⟩
   ·exact q
   ·lia
  refine xB (w_count C hg (by nofun) (by nofun) B' fun m st2 R2 hm1 hm2 hs2=>?_)
  dsimp only
  have B2:=R2.b
  have hp2:pendingOf st2=#[]:=R2.pend.trans hp'
  refine zUh (fun q2=>?_) fun q2=>?_
  ·refine xB (wpS_lift (vG ⟨rfl,?_⟩))
   refine xB (yAa C hg (by nofun) (by nofun) B2 hs2 fun st3 R3 hs3=>?_)
   have B3:=R3.b
   have hp3:pendingOf st3=#[]:=R3.pend.trans hp2
   rw[xg (by decide)]
   refine xB (wpS_get ?_)
   rw[hp3]
   refine xB (wpS_modify (xN ⟨_,[(0,min (a₀.size-0) a₀.size,0)],rfl,⟨B3.perm,B3.kind,B3.failed⟩,?_,.inr ⟨by nofun,by simp,?_⟩⟩))
   ·show(pendingOf st3).push _=_
    rw[hp3];rfl
   ·have:0+min (a₀.size-0) a₀.size=a₀.size:=by nofun
    rw[this]at hs3
    exact hs3
  ·refine xB (wpS_get ?_)
   rw[hp2]
   refine xB (wpS_modify (xN ⟨_,[(0,m,0)],rfl,⟨B2.perm,B2.kind,B2.failed⟩,?_,.inr ⟨by nofun,by simp,?_⟩⟩))
   ·show(pendingOf st2).push _=_
    rw[hp2];rfl
   ·have:0+m=a₀.size:=by nofun
    rw[this]at hs2
    exact hs2
end
end TM
namespace EK
open PySem
open DS (D)
inductive A2 {α β:Type}(R:α->β->Prop):List α->List β->Prop where
 | nil:A2 R [] []
 | cons {a:α}{b:β}{l:List α}{m:List β}:R a b->A2 R l m->A2 R (a::l) (b::m)
theorem A2.length {α β:Type}{R:α->β->Prop}{l:List α}{m:List β}(h:A2 R l m):l.length=m.length:=by
 induction h with
 | nil=>rfl
 | cons _ _ ih=>simp[ih]
theorem A2.imp {α β:Type}{R R':α->β->Prop}{l:List α}{m:List β}(h:A2 R l m) (k:∀a b,R a b->R' a b):A2 R' l m:=by
 induction h with
 | nil=>exact .nil
 | cons h _ ih=>exact .cons (k _ _ h) ih
noncomputable def Ek (h:Heap):Nat->D->Value->Prop
 | 0,d,v=>∃i t,d=.int i/\v=.int i t
 | n+1,d,v=>∃ds a o items k,d=.tup ds/\v=.ref a/\h.get? a=some o/\o.cls=.type "tuple"/\o.data=.seq items k/\A2 (Ek h n) ds items.toList
theorem Ek.kept {h h':Heap}:∀{n:Nat}{d:D}{v:Value},Ek h n d v->(∀a o,h.get? a=some o->o.cls=.type "tuple"->h'.get? a=some o)->Ek h' n d v
 | 0,_,_,x,_=>x
 | n+1,_,_,⟨ds,a,o,items,k,e1,e2,h1,h2,h3,r⟩,kp=>⟨ds,a,o,items,k,e1,e2,kp a o h1 h2,h2,h3,r.imp fun _ _ q=>Ek.kept q kp⟩
theorem A2.inj {α β:Type}{R R':α->β->Prop}{l l':List α}{m:List β}(h:A2 R l m) (h':A2 R' l' m) (k:∀a a' b,R a b->R' a' b->a=a'):l=l':=by
 induction h generalizing l' with
 | nil=>cases h';rfl
 | cons h _ ih=>
  cases h' with
  | cons q r=>rw[k _ _ _ h q,ih r]
theorem Ek.inj {h:Heap}:∀{n:Nat}{d d':D}{v:Value},Ek h n d v->Ek h n d' v->d=d'
 | 0,_,_,_,⟨i,t,e1,e2⟩,⟨j,u,e3,e4⟩=>by subst e1 e2 e3;cases e4;rfl
 | n+1,_,_,_,⟨ds,a,o,items,k,e1,e2,h1,h2,h3,r⟩,⟨ds',a',o',items',k',e1',e2',h1',h2',h3',r'⟩=>by
  subst e1 e2 e1'
  cases e2'
  obtain rfl:o=o':=xJ (h1.symm.trans h1')
  rw[h3]at h3'
  injection h3' with q _
  subst q
  rw[r.inj r' fun _ _ _ x y=>Ek.inj x y]
mutual
noncomputable def hD:D->Int
 | .int i=>hashInt i
 | .tup l=>reduceHash (Builtin.Tuple.tupleHashOf (hL l))
 | _=>0
noncomputable def hL:List D->List Int
 | []=>[]
 | d::r=>hD d::hL r
end
theorem zU6:∀(l m:List D),hL (l++m)=hL l++hL m
 | [],_=>rfl
 | d::l,m=>by simp[hL,zU6 l m]
section
variable {prog:Program}{w:World}{s:Shared}
theorem Ek.typeIs {n:Nat}{d:D}{a:Addr}(h:Ek s.heap (n+1) d (.ref a)):s.TypeIs (.ref a) "tuple":=by
 obtain⟨ds,a',o,items,k,e1,e2,h1,h2,h3,r⟩:=h
 cases e2
 exact⟨o,h1,h2⟩
theorem zQ1:∀(n:Nat) {d:D}{v:Value}{A:Around}{E:Value->Shared->Prop}{s:Shared}{Q:Int->Shared->Prop},Ek s.heap n d v->A.units+n<cLine->(∀tk,s.toks<=tk->Q (hD d) { s with toks:=tk })->wpAny (model prog w) A (pyHash v) Q E s
 | 0,_,_,A,E,s,Q,⟨i,t,e1,e2⟩,_,h=>by subst e1 e2;exact wpAny_pyHash_int (h _ (ub _ _))
 | n+1,_,_,A,E,s,Q,hk,hu,h=>by
  have hk0:=hk
  obtain⟨ds,a,o,items,k,rfl,rfl,ho,hc,hd,r⟩:=hk
  have hT:=hk0.typeIs
  unfold pyHash
  first|unfold pyHashByItsType|skip
  first|refine xa (wpAny_cRoomFor_or (.inr (by nofun)) ?_)|skip
  refine xa (ui hT yw.lookup ?_)
  show wpAny _ _ (if(some (Value.builtin "tuple.__hash__") == some Value.none)=true then _ else _) Q E s
  rw[xg (by rw[beq_builtin_none];exact yg)]
  refine xa (ui hT yw.lookup ?_)
  show wpAny _ _ (callSpecialIfBoundUnlessNone? (.ref a) "__hash__" _ >>= _) Q E s
  refine xa (wpAny_callSpecialIfBoundUnlessNone?_slot hT yw (vh yw hT F.entry_tuple_hash ?_ (F.args_tuple_hash_1 _)))
  show wpAny _ _ (Builtin.Tuple.tupleItemsOf (.ref a) >>= _) _ _ s
  refine xa (yx ho hd (xa ?_))
  rw[<- Array.forIn_toList]
  refine uM _ (fun rest (b:Array Int) s'=>∃fst left tk,ds=fst++left/\s.toks<=tk/\A2 (Ek s.heap n) left rest/\b.toList=hL fst/\s'={ s with toks:=tk }) _ ?_ ?_ _ _ ⟨[],ds,s.toks,rfl,xi _,r,rfl,rfl⟩
  ·rintro x rest b s' ⟨fst,left,tk,rfl,ht,hl,hb,rfl⟩
   cases hl with
   | @cons k' _ ks' _ h1 hl'=>
    refine xa (zQ1 n (s:={ s with toks:=tk }) h1 (by show A.units+1+n<cLine;lia) fun tk2 ht2=>?_)
    exact xh ⟨fst++[k'],ks',tk2,by simp,xk ht ht2,hl',by rw[zU6];simp[hb,hL],rfl⟩
  ·rintro b s' ⟨fst,left,tk,rfl,ht,hl,hb,rfl⟩
   cases hl
   rw[v3]at h
   show wpAny _ _ (retInt (Builtin.Tuple.tupleHashOf b.toList)) _ _ _
   rw[hb]
   refine wpAny_ret_mkInt ?_
   show wpAny _ _ (if(decide (-(2:Int) ^ 63<=Builtin.Tuple.tupleHashOf (hL fst)) && decide (Builtin.Tuple.tupleHashOf (hL fst)<2 ^ 63))=true then _ else _) Q E _
   have h':=h (tk+1) (Nat.le_succ_of_le ht)
   unfold hD reduceHash at h'
   by_cases hr:(decide (-(2:Int) ^ 63<=Builtin.Tuple.tupleHashOf (hL fst)) && decide (Builtin.Tuple.tupleHashOf (hL fst)<2 ^ 63))=true
   ·rw[xf hr]
    rw[xf hr]at h'
    exact xh h'
   ·rw[xg hr]
    rw[xg hr]at h'
    exact xa (vG (xh h'))
theorem zIe:∀(n f:Nat) {d:D}{v:Value}{A:Around}{E:Value->Shared->Prop}{s:Shared}{Q:Bool->Shared->Prop},Ek s.heap n d v->n<=f->Q false s->wpAny (model prog w) A (ofAClassStatement f v) Q E s
 | 0,f,_,_,A,E,s,Q,⟨i,t,e1,e2⟩,_,h=>by subst e1 e2;exact wpAny_of_eq (show ofAClassStatement f (.int i t)=pure false by cases f <;> rfl) h
 | n+1,0,_,_,A,E,s,Q,hk,hf,h=>by nofun
 | n+1,f+1,_,_,A,E,s,Q,hk,hf,h=>by
  have hk0:=hk
  obtain⟨ds,a,o,items,k,rfl,rfl,ho,hc,hd,r⟩:=hk
  have hT:=hk0.typeIs
  unfold ofAClassStatement
  refine xa (vY hT ?_)
  dsimp only
  rw[xf (by decide)]
  refine xa (xh ?_)
  rw[xg (by decide)]
  refine xa (vD ho hd (xa ?_))
  show wpAny _ _ (forIn items _ _) _ _ s
  rw[<- Array.forIn_toList]
  refine uM _ (fun rest r s'=>r.1=none/\s'=s/\∃l,A2 (Ek s.heap n) l rest) _ ?_ ?_ _ _ ⟨rfl,rfl,_,r⟩
  ·rintro v rest r s' ⟨hr,rfl,l,al⟩
   cases al with
   | cons q al=>
    refine xa (zIe n f q (by nofun) ?_)
    rw[xg (by decide)]
    exact xh ⟨rfl,rfl,_,al⟩
  ·rintro⟨r1,r2⟩ s' ⟨hr,rfl,_⟩
   simp only at hr
   subst hr
   exact xh h
theorem zM5:∀(n f:Nat) {d:D}{v:Value}{A:Around}{E:Value->Shared->Prop}{s:Shared}{Q:Bool->Shared->Prop},Ek s.heap n d v->n<=f->Q true s->wpAny (model prog w) A (hashByValue f v) Q E s
 | 0,f,_,_,A,E,s,Q,⟨i,t,e1,e2⟩,_,h=>by subst e1 e2;exact wpAny_of_eq (show hashByValue f (.int i t)=pure true by cases f <;> rfl) h
 | n+1,0,_,_,A,E,s,Q,hk,hf,h=>by nofun
 | n+1,f+1,_,_,A,E,s,Q,hk,hf,h=>by
  have hk0:=hk
  obtain⟨ds,a,o,items,k,rfl,rfl,ho,hc,hd,r⟩:=hk
  have hT:=hk0.typeIs
  unfold hashByValue
  refine xa (ui hT yw.lookup ?_)
  dsimp only
  refine xa (vD ho hd (xa ?_))
  show wpAny _ _ (forIn items _ _) _ _ s
  rw[<- Array.forIn_toList]
  refine uM _ (fun rest r s'=>r.1=none/\s'=s/\∃l,A2 (Ek s.heap n) l rest) _ ?_ ?_ _ _ ⟨rfl,rfl,_,r⟩
  ·rintro v rest r s' ⟨hr,rfl,l,al⟩
   cases al with
   | cons q al=>
    refine xa (zM5 n f q (by nofun) ?_)
    rw[xg (by decide)]
    exact xh ⟨rfl,rfl,_,al⟩
  ·rintro⟨r1,r2⟩ s' ⟨hr,rfl,_⟩
   simp only at hr
   subst hr
   exact xh h
theorem zId:∀(n f:Nat) {d:D}{v:Value}{A:Around}{E:Value->Shared->Prop}{s:Shared}{Q:Bool->Shared->Prop},Ek s.heap n d v->n<=f->Q true s->wpAny (model prog w) A (eqIsQuiet f v) Q E s
 | 0,f,_,_,A,E,s,Q,⟨i,t,e1,e2⟩,_,h=>by subst e1 e2;rw[eqIsQuiet_byValue _ (by rfl)];exact xh h
 | n+1,0,_,_,A,E,s,Q,hk,hf,h=>by nofun
 | n+1,f+1,_,_,A,E,s,Q,hk,hf,h=>by
  have hk0:=hk
  obtain⟨ds,a,o,items,k,rfl,rfl,ho,hc,hd,r⟩:=hk
  have hT:=hk0.typeIs
  unfold eqIsQuiet
  refine xa (ui hT F.slot_tuple_eq.lookup ?_)
  show wpAny _ _ (isInstance (.ref a) (.type "tuple") >>= _) _ _ s
  refine xa (uj hT isSubtype_tuple_tuple ?_)
  simp only[uN,vo,xV]
  refine xa (vD ho hd (xa ?_))
  show wpAny _ _ (forIn items _ _) _ _ s
  rw[<- Array.forIn_toList]
  refine uM _ (fun rest r s'=>r.1=none/\s'=s/\∃l,A2 (Ek s.heap n) l rest) _ ?_ ?_ _ _ ⟨rfl,rfl,_,r⟩
  ·rintro v rest r s' ⟨hr,rfl,l,al⟩
   cases al with
   | cons q al=>
    refine xa (zId n f q (by nofun) ?_)
    simp only[uN,vo,xV]
    exact xh ⟨rfl,rfl,_,al⟩
  ·rintro⟨r1,r2⟩ s' ⟨hr,rfl,_⟩
   simp only at hr
   subst hr
   exact xh h
open Classical in
theorem zNc:∀(n:Nat) {d d':D}{v v':Value}{A:Around}{E:Value->Shared->Prop}{s:Shared}{Q:Bool->Shared->Prop},Ek s.heap n d v->Ek s.heap n d' v'->A.units+n<cLine->Q (decide (d=d')) s->wpAny (model prog w) A (eqBool v v') Q E s
 | 0,_,_,_,_,A,E,s,Q,⟨i,t,e1,e2⟩,⟨j,u,e3,e4⟩,_,h=>by
  subst e1 e2 e3 e4
  refine wpAny_eqBool_int ?_
  have:(i == j)=decide (D.int i=D.int j):=by
   by_cases q:i=j
   ·subst q;simp
   ·rw[xu (fun z=>q (by cases z;rfl))];simpa using q
  rw[this];exact h
 | n+1,_,_,_,_,A,E,s,Q,hx,hy,hu,h=>by
  have hx0:=hx
  have hy0:=hy
  obtain⟨ds,a,oa,xs,ka,rfl,rfl,hoa,hca,hda,ra⟩:=hx
  obtain⟨es,b,ob,ys,kb,rfl,rfl,hob,hcb,hdb,rb⟩:=hy
  unfold eqBool
  try with_reducible refine xK ?_
  show wpAny _ _ (if(Value.ref a == Value.ref b)=true then _ else _) Q E s
  by_cases hab:(Value.ref a == Value.ref b)=true
  ·rw[xf hab]
   have e:a=b:=by have:=eq_of_beq hab;injection this
   subst e
   have e2:=hx0.inj hy0
   rw[xv e2]at h
   exact xa (vG (xh h))
  ·rw[xg hab]
   suffices hc:wpAny (model prog w) A (call (.builtin "tuple.__eq__") [.ref a,.ref b]) (fun v s'=>v=.bool (decide (D.tup ds=D.tup es))/\s'=s) E s from
    xa (wpAny_richCompare_same_room (op:=.Eq) hx0.typeIs hy0.typeIs F.slot_tuple_eq (vB hc (fun v s' q=>by
     obtain⟨rfl,rfl⟩:=q
     exact⟨(fun e=>nomatch e),vW h⟩) fun _ _ x=>x) (by nofun))
   refine vh F.slot_tuple_eq hx0.typeIs F.entry_tuple_eq ?_ (F.args_tuple_eq_2 _ _)
   have fin:∀c:Bool,c=decide (D.tup ds=D.tup es)->∃v,(PySem.Fin.done (.ret (.bool c)):PySem.Fin)=.done (.ret v)/\v=.bool (decide (D.tup ds=D.tup es))/\s=s:=fun c hc=>⟨_,rfl,by rw[hc],rfl⟩
   show wpAny _ _ (isInstance (.ref b) (.type "tuple") >>= _) _ _ s
   refine xa (uj hy0.typeIs isSubtype_tuple_tuple ?_)
   simp only[uN,vo,xV]
   refine xa (yx hoa hda (xa (yx hob hdb (xa ?_))))
   refine uM _ (fun rest r s'=>r.1=none/\s'=s/\∃(x' y':List D) (xs' ys':List Value),rest=List.zip xs' ys'/\A2 (Ek s.heap n) x' xs'/\A2 (Ek s.heap n) y' ys'/\(x'=y' <-> ds=es)/\(xs'.length == ys'.length)=(xs.size == ys.size)) _ ?_ ?_ _ _ ⟨rfl,rfl,ds,es,xs.toList,ys.toList,rfl,ra,rb,Iff.rfl,by simp⟩
   ·rintro⟨u,v⟩ rest r s' ⟨hr,rfl,x',y',xs',ys',hz,hx',hy',hdec,hlen⟩
    cases hx' with
    | nil=>simp at hz
    | @cons k1 u' x'' xs'' h1 hx''=>
     cases hy' with
     | nil=>simp at hz
     | @cons k2 v' y'' ys'' h2 hy''=>
      simp only[uJ,List.cons.injEq,Prod.mk.injEq]at hz
      obtain⟨⟨rfl,rfl⟩,rfl⟩:=hz
      refine xa (zNc n h1 h2 (by show A.units+1+n<cLine;lia) ?_)
      by_cases hk:k1=k2
      ·subst hk
       rw[xv rfl]
       simp only[uN,vo,xV]
       refine xh ⟨rfl,rfl,x'',y'',xs'',ys'',rfl,hx'',hy'',?_,by simpa using hlen⟩
       rw[<- hdec];simp
      ·rw[xu hk]
       simp only[Bool.not_false,xj]
       have hf:¬ ds=es:=fun z=>hk (by have:=hdec.mpr z;cases this;rfl)
       exact xa (xh (xh (xh (fin false (by rw[xu];intro z;cases z;exact hf rfl)))))
   ·rintro⟨r1,r2⟩ s' ⟨hr,rfl,x',y',xs',ys',hz,hx',hy',hdec,hlen⟩
    simp only at hr
    subst hr
    refine xh ?_
    have hfin:(xs.size == ys.size)=decide (D.tup ds=D.tup es):=by
     have e3:decide (D.tup ds=D.tup es)=decide (x'=y'):=xI.mpr (by rw[D.tup.injEq];exact hdec.symm)
     rw[e3,<- hlen]
     cases hx' with
     | nil=>
      cases hy' with
      | nil=>simp
      | cons _ _=>simp
     | cons _ _=>
      cases hy' with
      | nil=>simp
      | cons _ _=>simp at hz
    exact fin _ hfin
end
end EK
namespace DS
open PySem (Str)
noncomputable section
open Classical
mutual
noncomputable def blt:D->D->Bool
 | .int a,.int b=>decide (a<b)
 | .tup l,.tup m=>bltL l m
 | _,_=>false
noncomputable def bltL:List D->List D->Bool
 | [],[]=>false
 | [],_::_=>true
 | _::_,[]=>false
 | a::r,b::t=>if a=b then bltL r t else blt a b
end
noncomputable def lv:Nat->D->Prop
 | 0,d=>∃i,d=.int i
 | n+1,d=>∃l,d=.tup l/\∀x∈l,lv n x
theorem zCm (a b:D) (r t:List D):bltL (a::r) (b::t)=if a=b then bltL r t else blt a b:=by rw[bltL]
theorem zMc:∀(l:List D),bltL l l=false
 | []=>by rw[bltL]
 | a::r=>by rw[zCm,xf rfl];exact zMc r
theorem zL0 {n:Nat}{d:D}(h:lv n d):blt d d=false:=by
 cases n with
 | zero=>obtain⟨i,rfl⟩:=h;rw[blt];simp
 | succ n=>obtain⟨l,rfl,_⟩:=h;rw[blt];exact zMc l
theorem zKz:∀(n:Nat) {a b:D},lv n a->lv n b->a≠b->blt a b=true\/blt b a=true
 | 0,_,_,⟨i,e⟩,⟨j,e'⟩,h=>by
  subst e e'
  rw[blt,blt]
  have:i≠j:=fun z=>h (by rw[z])
  simp only[decide_eq_true_eq]
  lia
 | n+1,_,_,⟨l,e,hl⟩,⟨m,e',hm⟩,h=>by
  subst e e'
  rw[blt,blt]
  have hlm:l≠m:=fun z=>h (by rw[z])
  clear h
  induction l generalizing m with
  | nil=>
   cases m with
   | nil=>exact absurd rfl hlm
   | cons b t=>left;rw[bltL]
  | cons a r ih=>
   cases m with
   | nil=>right;rw[bltL]
   | cons b t=>
    rw[zCm,zCm]
    by_cases q:a=b
    ·subst q
     rw[xf rfl,xf rfl]
     exact ih (fun x hx=>hl x (.tail _ hx)) t (fun x hx=>hm x (.tail _ hx)) fun z=>hlm (by rw[z])
    ·rw[xg q,xg (xw q)]
     exact zKz n (hl a (.head _)) (hm b (.head _)) q
theorem zMb:∀(n:Nat) {a b c:D},lv n a->lv n b->lv n c->blt a b=true->blt b c=true->blt a c=true
 | 0,_,_,_,⟨i,e⟩,⟨j,e'⟩,⟨k,e''⟩,h,h'=>by
  subst e e' e''
  rw[blt]at h h' ⊢
  simp only[decide_eq_true_eq]at *
  lia
 | n+1,_,_,_,⟨l,e,hl⟩,⟨m,e',hm⟩,⟨k,e'',hk⟩,h,h'=>by
  subst e e' e''
  rw[blt]at h h' ⊢
  induction l generalizing m k with
  | nil=>
   cases k with
   | nil=>cases m with
    | nil=>exact h
    | cons b t=>rw[bltL]at h';cases h'
   | cons c u=>rw[bltL]
  | cons a r ih=>
   cases m with
   | nil=>rw[bltL]at h;cases h
   | cons b t=>
    cases k with
    | nil=>rw[bltL]at h';cases h'
    | cons c u=>
     rw[zCm]at h h' ⊢
     by_cases q:a=b
     ·subst q
      rw[xf rfl]at h
      by_cases q2:a=c
      ·subst q2
       rw[xf rfl]at h' ⊢
       exact ih (fun x hx=>hl x (.tail _ hx)) t (fun x hx=>hm x (.tail _ hx)) u (fun x hx=>hk x (.tail _ hx)) h h'
      ·rw[xg q2]at h' ⊢;exact h'
     ·rw[xg q]at h
      by_cases q2:b=c
      ·subst q2;rw[xg q];exact h
      ·rw[xg q2]at h'
       have t1:=zMb n (hl a (.head _)) (hm b (.head _)) (hk c (.head _)) h h'
       rw[xg (fun z=>by subst z;rw[zL0 (hl _ (.head _))]at t1;cases t1)]
       exact t1
theorem zX9 {n:Nat}{a b:D}(ha:lv n a) (hb:lv n b) (h:blt a b=true):blt b a=false:=by
 cases e:blt b a with
 | false=>rfl
 | true=>have:=zMb n ha hb ha h e;rw[zL0 ha]at this;cases this
noncomputable def dle (a b:D):Prop:=blt b a=false
theorem zU8 {n:Nat}{a b c:D}(ha:lv n a) (hb:lv n b) (hc:lv n c) (h:dle a b) (h':dle b c):dle a c:=by
 unfold dle at *
 cases e:blt c a with
 | false=>rfl
 | true=>
  by_cases q:a=b
  ·subst q;rw[h']at e;cases e
  ·rcases zKz n ha hb q with z|z
   ·have:=zMb n hc ha hb e z;rw[h']at this;cases this
   ·rw[h]at z;cases z
theorem zT4 {n:Nat}{a b:D}(ha:lv n a) (hb:lv n b) (h:dle a b) (h':dle b a):a=b:=by
 apply xW
 intro q
 rcases zKz n ha hb q with z|z
 ·rw[show blt a b=false from h']at z;cases z
 ·rw[show blt b a=false from h]at z;cases z
noncomputable def ins (x:D):List D->List D
 | []=>[x]
 | y::l=>if blt y x=true then y::ins x l else x::y::l
noncomputable def srt:List D->List D
 | []=>[]
 | x::l=>ins x (srt l)
theorem ins_perm (x:D):∀l,(ins x l).Perm (x::l)
 | []=>.refl _
 | y::l=>by
  unfold ins
  split
  ·exact((ins_perm x l).cons y).trans (List.Perm.swap ..)
  ·exact .refl _
theorem zCb:∀l,(srt l).Perm l
 | []=>.refl _
 | x::l=>(ins_perm x _).trans ((zCb l).cons x)
noncomputable abbrev Up (l:List D):Prop:=l.Pairwise dle
theorem ins_up {n:Nat}{x:D}:∀{l:List D},lv n x->(∀y∈l,lv n y)->Up l->Up (ins x l)
 | [],_,_,_=>List.pairwise_singleton _ _
 | y::l,hx,hl,h=>by
  have h':=ua.mp h
  unfold ins
  split
  ·rename_i q
   refine ua.mpr ⟨fun z hz=>?_,ins_up hx (fun z hz=>hl z (.tail _ hz)) h'.2⟩
   rcases xm.mp ((ins_perm x l).mem_iff.mp hz)with rfl|hz
   ·exact zX9 (hl y (.head _)) hx q
   ·exact h'.1 z hz
  ·rename_i q
   refine ua.mpr ⟨fun z hz=>?_,h⟩
   rcases xm.mp hz with rfl|hz
   ·exact yv.mpr q
   ·exact zU8 hx (hl y (.head _)) (hl z (.tail _ hz)) (yv.mpr q) (h'.1 z hz)
theorem zLd {n:Nat}:∀{l:List D},(∀y∈l,lv n y)->Up (srt l)
 | [],_=>.nil
 | x::l,h=>ins_up (h x (.head _)) (fun y hy=>h y (.tail _ ((zCb l).mem_iff.mp hy))) (zLd fun y hy=>h y (.tail _ hy))
theorem up_eq {n:Nat}:∀{l m:List D},(∀y∈l,lv n y)->l.Perm m->Up l->Up m->l=m
 | [],m,_,p,_,_=>by rw[List.nil_perm.mp p]
 | a::l,[],_,p,_,_=>by have:=p.length_eq;simp at this
 | a::l,b::m,hv,p,h,h'=>by
  have ha:=ua.mp h
  have hb:=ua.mp h'
  have e:a=b:=by
   by_cases z:a=b
   ·exact z
   ·have m1:b∈l:=by
     rcases xm.mp (p.mem_iff.mpr (xQ (a:=b) (l:=m)))with q|q
     ·exact absurd q.symm z
     ·exact q
    have m2:a∈m:=by
     rcases xm.mp (p.mem_iff.mp (xQ (a:=a) (l:=l)))with q|q
     ·exact absurd q z
     ·exact q
    exact zT4 (hv a (.head _)) (hv b (.tail _ m1)) (ha.1 b m1) (hb.1 a m2)
  subst e
  rw[up_eq (fun y hy=>hv y (.tail _ hy)) (List.Perm.cons_inv p) ha.2 hb.2]
theorem zNt {n:Nat}{l m:List D}(hv:∀y∈l,lv n y) (p:l.Perm m) (h:Up l):l=srt m:=up_eq hv (p.trans (zCb m).symm) h (zLd fun y hy=>hv y (p.mem_iff.mpr hy))
noncomputable def rkD (l:List D) (d:D):Nat:=(l.filter fun e=>blt e d).length
theorem zWp {p q:D->Bool}:∀(l:List D),(∀x∈l,p x=true->q x=true)->(l.filter p).length<=(l.filter q).length
 | [],_=>xi _
 | x::l,h=>by
  have ih:=zWp l fun y hy=>h y (.tail _ hy)
  by_cases c:p x=true
  ·rw[uy c,uy (h x (.head _) c)];simpa using ih
  ·rw[yc c]
   by_cases c2:q x=true
   ·rw[uy c2,xE];lia
   ·rw[yc c2];exact ih
theorem zZr {p q:D->Bool}{y:D}(hy:p y=false) (hy':q y=true):∀(l:List D),y∈l->(∀x∈l,p x=true->q x=true)->(l.filter p).length<(l.filter q).length
 | x::l,hm,h=>by
  rcases xm.mp hm with e|hm
  ·subst e
   rw[yc (by rw[hy];decide),uy hy',xE]
   have:=zWp l fun z hz=>h z (.tail _ hz)
   lia
  ·have ih:=zZr hy hy' l hm fun z hz=>h z (.tail _ hz)
   by_cases c:p x=true
   ·rw[uy c,uy (h x (.head _) c)];simpa using ih
   ·rw[yc c]
    by_cases c2:q x=true
    ·rw[uy c2,xE];lia
    ·rw[yc c2];exact ih
theorem zV0 {n:Nat}{l:List D}{a b:D}(hl:∀x∈l,lv n x) (ha:a∈l) (hb:b∈l):decide (rkD l a<rkD l b)=blt a b:=by
 cases e:blt a b with
 | true=>exact xv (zZr (p:=fun e=>blt e a) (q:=fun e=>blt e b) (zL0 (hl a ha)) e l ha fun x hx q=>zMb n (hl x hx) (hl a ha) (hl b hb) q e)
 | false=>
  refine xu (Nat.not_lt.mpr (zWp l fun x hx q=>?_))
  cases e2:blt x a with
  | true=>rfl
  | false=>exact absurd q (by rw[show blt x b=false from zU8 (hl b hb) (hl a ha) (hl x hx) e e2];decide)
noncomputable def dedup:List D->List D
 | []=>[]
 | x::l=>if x∈l then dedup l else x::dedup l
theorem mem_dedup {x:D}:∀{l:List D},x∈dedup l <-> x∈l
 | []=>Iff.rfl
 | y::l=>by
  unfold dedup
  split
  ·rename_i h
   rw[mem_dedup]
   constructor
   ·exact fun q=>.tail _ q
   ·intro q
    rcases xm.mp q with rfl|q
    ·exact h
    ·exact q
  ·rw[xm,xm,mem_dedup]
theorem zEj:∀{l:List D},(dedup l).Nodup
 | []=>.nil
 | y::l=>by
  unfold dedup
  split
  ·exact zEj
  ·rename_i h
   exact vP.mpr ⟨fun q=>h (mem_dedup.mp q),zEj⟩
theorem zW2 {l m:List D}(h:l.Nodup) (h':m.Nodup) (e:∀x,x∈l <-> x∈m):l.Perm m:=by
 induction l generalizing m with
 | nil=>
  cases m with
  | nil=>exact .refl _
  | cons b t=>exact absurd ((e b).mpr (.head _)) (by simp)
 | cons a l ih=>
  have ha:a∈m:=(e a).mp (.head _)
  obtain⟨u,v,rfl⟩:=List.append_of_mem ha
  have hn:=vP.mp h
  have h2:(a::(u++v)).Nodup:=(yo.nodup_iff).mp h'
  have hm:=vP.mp h2
  refine(List.Perm.cons a (ih hn.2 hm.2 fun x=>?_)).trans yo.symm
  constructor
  ·intro hx
   have:=(e x).mp (.tail _ hx)
   rcases xm.mp ((yo (a:=a) (l₁:=u) (l₂:=v)).mem_iff.mp this)with rfl|q
   ·exact absurd hx hn.1
   ·exact q
  ·intro hx
   have:x∈a::l:=(e x).mpr ((yo (a:=a) (l₁:=u) (l₂:=v)).mem_iff.mpr (.tail _ hx))
   rcases xm.mp this with rfl|q
   ·exact absurd hx hm.1
   ·exact q
end
end DS
namespace EK
open PySem PyProof.Rows PySem.W
open DS (D blt bltL zCm)
open Classical
section
variable {prog:Program}{w:World}
theorem zHb {n:Nat}(ih:∀{d d':D}{v v':Value}{A:Around}{E:Value->Shared->Prop}{s:Shared}{Q:Value->Shared->Prop},Ek s.heap n d v->Ek s.heap n d' v'->A.units+n<cLine->Q (.bool (blt d d')) s->wpAny (model prog w) A (richCompare .Lt v v') Q E s)
  {d d':D}{a b:Addr}{A:Around}{E:Value->Shared->Prop}{s:Shared}{Q:Value->Shared->Prop}(hx:Ek s.heap (n+1) d (.ref a)) (hy:Ek s.heap (n+1) d' (.ref b)) (hu:A.units+(n+1)<cLine) (h:Q (.bool (blt d d')) s):wpAny (model prog w) A (call (.builtin "tuple.__lt__") [.ref a,.ref b]) Q E s:=by
 have hx0:=hx
 have hy0:=hy
 obtain⟨ds,a',oa,xs,ka,rfl,ea,hoa,hca,hda,ra⟩:=hx
 cases ea
 obtain⟨es,b',ob,ys,kb,rfl,eb,hob,hcb,hdb,rb⟩:=hy
 cases eb
 refine vh PySem.F.slot_tuple_lt hx0.typeIs PySem.F.entry_tuple_lt ?_ (PySem.F.args_tuple_lt_2 _ _)
 rw[blt]at h
 show wpAny _ _ (isInstance (.ref b) (.type "tuple") >>= _) _ _ s
 refine xa (uj hy0.typeIs isSubtype_tuple_tuple ?_)
 simp only[uN,vo,xV]
 refine xa (yx hoa hda (xa (yx hob hdb (xa ?_))))
 refine uM _ (fun rest r s'=>r.1=none/\s'=s/\∃(x' y':List D) (xs' ys':List Value),rest=List.zip xs' ys'/\A2 (Ek s.heap n) x' xs'/\A2 (Ek s.heap n) y' ys'/\bltL x' y'=bltL ds es/\decide (xs'.length<ys'.length)=decide (xs.size<ys.size)) _ ?_ ?_ _ _ ⟨rfl,rfl,ds,es,xs.toList,ys.toList,rfl,ra,rb,rfl,by simp⟩
 ·rintro⟨u,v⟩ rest r s' ⟨hr,rfl,x',y',xs',ys',hz,hx',hy',hdec,hlen⟩
  cases hx' with
  | nil=>simp at hz
  | @cons k1 u' x'' xs'' h1 hx''=>
   cases hy' with
   | nil=>simp at hz
   | @cons k2 v' y'' ys'' h2 hy''=>
    simp only[uJ,List.cons.injEq,Prod.mk.injEq]at hz
    obtain⟨⟨rfl,rfl⟩,rfl⟩:=hz
    refine xa (zNc n h1 h2 (by show A.units+1+n<cLine;lia) ?_)
    rw[zCm]at hdec
    by_cases hk:k1=k2
    ·subst hk
     rw[xf rfl]at hdec
     rw[xv rfl]
     simp only[uN,vo,xV]
     exact xh ⟨rfl,rfl,x'',y'',xs'',ys'',rfl,hx'',hy'',hdec,by simpa using hlen⟩
    ·rw[xg hk]at hdec
     rw[xu hk]
     simp only[Bool.not_false,xj]
     refine xa (vG (xa (ih h1 h2 (by show A.units+1+n<cLine;lia) ?_)))
     refine xa (xh (xh (xh ⟨_,rfl,?_⟩)))
     rw[hdec];exact h
 ·rintro⟨r1,r2⟩ s' ⟨hr,rfl,x',y',xs',ys',hz,hx',hy',hdec,hlen⟩
  simp only at hr
  subst hr
  have hfin:bltL ds es=decide (xs.size<ys.size):=by
   rw[<- hdec,<- hlen]
   cases hx' with
   | nil=>
    cases hy' with
    | nil=>rw[bltL];rfl
    | cons _ _=>rw[bltL];simp
   | cons _ _=>
    cases hy' with
    | nil=>rw[bltL];simp
    | cons _ _=>simp at hz
  rw[hfin]at h
  exact xh ⟨_,rfl,h⟩
theorem zWv:∀(n:Nat) {d d':D}{v v':Value}{A:Around}{E:Value->Shared->Prop}{s:Shared}{Q:Value->Shared->Prop},Ek s.heap n d v->Ek s.heap n d' v'->A.units+n<cLine->Q (.bool (blt d d')) s->wpAny (model prog w) A (richCompare .Lt v v') Q E s
 | 0,_,_,_,_,A,E,s,Q,⟨i,t,e1,e2⟩,⟨j,u,e3,e4⟩,_,h=>by
  subst e1 e2 e3 e4
  rw[blt]at h
  exact(lt_int h:wpAny (model prog w) A (compareOp .Lt (.int i t) (.int j u)) Q E s)
 | n+1,_,_,_,_,A,E,s,Q,hx,hy,hu,h=>by
  have hx0:=hx
  have hy0:=hy
  obtain⟨ds,a,oa,xs,ka,rfl,rfl,hoa,hca,hda,ra⟩:=hx
  obtain⟨es,b,ob,ys,kb,rfl,rfl,hob,hcb,hdb,rb⟩:=hy
  exact wpAny_richCompare_same_room (op:=.Lt) hx0.typeIs hy0.typeIs PySem.F.slot_tuple_lt (zHb (fun {d d' v v' A E s Q}=>zWv n) hx0 hy0 hu ⟨(fun e=>nomatch e),h⟩) (by nofun)
theorem zP5 (n:Nat) {d d':D}{v v':Value}{A:Around}{E:Value->Shared->Prop}{s:Shared}{Q:Bool->Shared->Prop}(hx:Ek s.heap n d v) (hy:Ek s.heap n d' v') (hu:A.units+n<cLine) (h:Q (blt d d') s) (b:Bool):wpAny (model prog w) A (oneLt' b v v') Q E s:=by
 rw[oneLt'_eq]
 cases b with
 | false=>
  simp only[vo,xV]
  exact xa (zWv n hx hy hu (vW h))
 | true=>
  simp only[xj]
  refine xa (wpAny_cRoomFor_or (.inr (by nofun)) ?_)
  cases n with
  | zero=>
   obtain⟨i,t,rfl,rfl⟩:=hx
   obtain⟨j,u,rfl,rfl⟩:=hy
   rw[blt]at h
   exact xa (wpAny_callSpecialIfBound?_slot (typeIs_int s i t) slot_int_lt (call_int_lt (vW h)))
  | succ n=>
   have hx0:=hx
   have hy0:=hy
   obtain⟨ds,a,oa,xs,ka,rfl,rfl,hoa,hca,hda,ra⟩:=hx
   obtain⟨es,b,ob,ys,kb,rfl,rfl,hob,hcb,hdb,rb⟩:=hy
   exact xa (wpAny_callSpecialIfBound?_slot hx0.typeIs PySem.F.slot_tuple_lt (zHb (fun {d d' v v' A E s Q}=>zWv n) hx0 hy0 hu (vW h)))
theorem zU2 {n:Nat}{A:Around}{b:Bool}{s:Shared}{Q:Bool->Shared->Prop}(hu:A.units+n<cLine) {fin:Bool}:∀{ds es:List D}{xs ys:List Value}(i:Nat),A2 (Ek s.heap n) ds xs->A2 (Ek s.heap n) es ys->fin=decide (ds.length<es.length)->Q (bltL ds es) s->KatLex prog w A b fin Q (xs.zip ys) i s
 | _,_,_,_,i,.nil,.nil,hf,h=>by rw[bltL]at h;rw[hf];exact h
 | _,_,_,_,i,.nil,.cons _ _,hf,h=>by rw[bltL]at h;rw[List.zip_nil_left,hf];exact kat_nil (by simpa using h)
 | _,_,_,_,i,.cons _ _,.nil,hf,h=>by rw[bltL]at h;rw[List.zip_nil_right,hf];exact kat_nil (by simpa using h)
 | _,_,_,_,i,.cons (a:=d) h1 r1,.cons (a:=e) h2 r2,hf,h=>by
  rw[zCm]at h
  rw[uJ]
  refine kat_cons (zNc n h1 h2 hu ?_)
  by_cases q:d=e
  ·rw[xf q]at h
   rw[xv q]
   exact kat_yes (zU2 hu (i+1) r1 r2 (by rw[hf];simp) h)
  ·rw[xg q]at h
   rw[xu q]
   exact kat_no (zP5 n h1 h2 hu h _)
inductive Kd:SortKind->Nat->Prop where
 | gen {n:Nat}:Kd general' n
 | one {n:Nat}:Kd oneType' n
 | tup {n:Nat}{b:Bool}:Kd (tuples' b) (n+1)
theorem zZg {κ:SortKind}{n:Nat}(hκ:Kd κ n) {d d':D}{v v':Value}{A:Around}{E:Value->Shared->Prop}{s:Shared}{Q:Bool->Shared->Prop}(hx:Ek s.heap n d v) (hy:Ek s.heap n d' v') (hu:A.units+n<cLine) (h:Q (blt d d') s):wpAny (model prog w) A (keyLt' κ v v') Q E s:=by
 cases hκ with
 | gen=>exact(zP5 n hx hy hu h false:wpAny (model prog w) A (oneLt' false v v') Q E s)
 | one=>rw[keyLt'_oneType];exact zP5 n hx hy hu h true
 | @tup n b=>
  obtain⟨ds,a,oa,xs,ka,rfl,rfl,hoa,hca,hda,ra⟩:=hx
  obtain⟨es,c,ob,ys,kb,rfl,rfl,hob,hcb,hdb,rb⟩:=hy
  rw[blt]at h
  exact kat_lt hoa hda hob hdb (zU2 (by nofun) 0 ra rb (by rw[ra.length,rb.length];simp) h)
end
end EK
namespace EK
open PySem PyProof.Rows PySem.W TM
open DS (D blt bltL lv srt rkD zV0 zNt Up dle)
open Classical
theorem Ek.lv {h:Heap}:∀{n:Nat}{d:D}{v:Value},Ek h n d v->lv n d
 | 0,_,_,⟨i,t,e1,e2⟩=>⟨i,e1⟩
 | n+1,_,_,⟨ds,a,o,items,k,e1,e2,h1,h2,h3,r⟩=>⟨ds,e1,by
  clear e1 h3
  generalize items.toList=vs at r
  induction r with
  | nil=>intro x hx;cases hx
  | cons q _ ih=>
   intro x hx
   rcases xm.mp hx with rfl|hx
   ·exact Ek.lv q
   ·exact ih x hx⟩
section
variable {prog:Program}{w:World}{A:Around}{E:Value->Shared->Prop}{s:Shared}{n:Nat}{ds:List D}{vs:List Value}
noncomputable def ekTy:Nat->Value
 | 0=>.type "int"
 | _+1=>.type "tuple"
theorem zI1 {M:Model}{d:D}{v:Value}(h:Ek s.heap n d v):Looks M s.heap (typeOf v) (ekTy n):=by
 cases n with
 | zero=>obtain⟨i,t,rfl,rfl⟩:=h;exact .now
 | succ n=>
  obtain⟨ds,a,o,items,k,rfl,rfl,ho,hc,hd,r⟩:=h
  have:Looks M s.heap (typeOf (.ref a)) o.cls:=(Looks.ld ho).andThen .now
  rw[hc]at this;exact this
theorem A2.mem_r {α β:Type}{R:α->β->Prop}{l:List α}{m:List β}(h:A2 R l m):∀b∈m,∃a∈l,R a b:=by
 induction h with
 | nil=>intro b hb;cases hb
 | cons q _ ih=>
  intro b hb
  rcases xm.mp hb with rfl|hb
  ·exact⟨_,.head _,q⟩
  ·obtain⟨a,ha,r⟩:=ih b hb;exact⟨a,.tail _ ha,r⟩
theorem A2.mem_l {α β:Type}{R:α->β->Prop}{l:List α}{m:List β}(h:A2 R l m):∀a∈l,∃b∈m,R a b:=by
 induction h with
 | nil=>intro b hb;cases hb
 | cons q _ ih=>
  intro b hb
  rcases xm.mp hb with rfl|hb
  ·exact⟨_,.head _,q⟩
  ·obtain⟨a,ha,r⟩:=ih b hb;exact⟨a,.tail _ ha,r⟩
theorem zTz {M:Model}{vs:List Value}{T:Value}{Q:Option Value->Shared->Prop}(hT:∀v∈vs,Looks M s.heap (typeOf v) T) (h:∀r,Q r s):wpAny M A (oneTypeOnly' vs.toArray) Q E s:=by
 rw[oneTypeOnly'_eq,List.mapM_toArray,map_eq_pure_bind]
 refine xa (xa (kas_mapM (r:=T) _ (fun v hv Q' hq=>(hT v hv).here hq) (xh ?_)))
 split
 ·exact xh (h _)
 ·exact xh (h _)
theorem firsts {M:Model}:∀{ds:List D}{vs:List Value}{Q:List (Option Value)->Shared->Prop},A2 (Ek s.heap n) ds vs->(∀fs:List (Option Value),fs.length=vs.length->(n=0->∀f∈fs,f=none)->(∀f∈fs,∀v,f=some v->∃m d,n=m+1/\Ek s.heap m d v)->Q fs s)->wpAny M A (vs.mapM firstOfTuple') Q E s
 | _,_,Q,.nil,h=>by rw[List.mapM_nil];exact xh (h [] rfl (fun _ f hf=>nomatch hf) fun f hf=>nomatch hf)
 | _,_,Q,.cons (b:=v) (m:=vs) q r,h=>by
  rw[List.mapM_cons]
  refine xa ?_
  have go:∀f:Option Value,(n=0->f=none)->(∀v,f=some v->∃m d,n=m+1/\Ek s.heap m d v)->wpAny M A (vs.mapM firstOfTuple' >>= fun bs=>pure (f::bs)) Q E s:=fun f h0 h1=>
   xa (firsts (Q:=fun bs s'=>wpAny M A (pure (f::bs)) Q E s') r fun fs hl hz hs=>xh (h (f::fs) (by simp[hl]) (fun z g hg=>by
    rcases xm.mp hg with rfl|hg
    ·exact h0 z
    ·exact hz z g hg) fun g hg=>by
    rcases xm.mp hg with rfl|hg
    ·exact h1
    ·exact hs g hg))
  have lk:=zI1 (M:=M) q
  rw[kas_first_eq]
  cases n with
  | zero=>
   obtain⟨i,t,rfl,rfl⟩:=q
   refine xa (Looks.here (show Looks M s.heap (typeOf (.int i t)) (.type "int")from .now) ?_)
   rw[xf (by decide)]
   exact xh (go none (fun _=>rfl) fun v e=>nomatch e)
  | succ n=>
   obtain⟨ds,a,o,items,k,rfl,rfl,ho,hc,hd,r'⟩:=q
   refine xa (lk.here ?_)
   rw[show ekTy (n+1)=.type "tuple" from rfl,xg (by decide)]
   refine xa (listItems_at ho hd (xh (go _ (fun z=>nomatch z) fun v e=>?_)))
   obtain⟨d,hd',rr⟩:=r'.mem_r v (by obtain⟨z,e⟩:=vZ.mp e;rw[<- e];simp)
   exact⟨n,d,rfl,rr⟩
theorem zWe {Q:SortKind->Shared->Prop}(h:A2 (Ek s.heap n) ds vs) (hne:vs≠[]) (hQ:∀κ,Kd κ n->Q κ s):wpAny (model prog w) A (keyKind' vs.toArray) Q E s:=by
 rw[kat_kind_eq,List.mapM_toArray,map_eq_pure_bind]
 refine xa (xa (firsts h fun fs hl hz hs=>xh ?_))
 by_cases q:(fs.toArray.all fun x=>x.isSome)=true
 ·rw[xf q]
  have hn:∃m,n=m+1:=by
   cases n with
   | succ m=>exact⟨m,rfl⟩
   | zero=>
    exfalso
    match fs,hl with
    | [],hl=>exact hne (List.length_eq_zero_iff.mp hl.symm)
    | f::fs,hl=>
     have:f=none:=hz rfl f (.head _)
     subst this
     simp at q
  obtain⟨m,rfl⟩:=hn
  refine xa (vG ?_)
  have e:fs.toArray.filterMap id=(fs.filterMap id).toArray:=by simp
  rw[e]
  refine xa (zTz (T:=ekTy m) (fun v hv=>?_) fun r=>xh (hQ _ .tup))
  obtain⟨f,hf,e2⟩:=uT.mp hv
  obtain⟨m',d,e3,hk⟩:=hs f hf v e2
  cases e3
  exact zI1 hk
 ·rw[xg q]
  split
  ·exact xh (hQ _ .gen)
  ·refine xa (zTz (T:=ekTy n) (fun v hv=>?_) fun r=>?_)
   ·obtain⟨d,_,hk⟩:=h.mem_r v hv
    exact zI1 hk
   ·split
    ·exact xh (hQ _ .one)
    ·exact xh (hQ _ .gen)
noncomputable def kd (h:Heap) (n:Nat) (v:Value):D:=if z:∃d,Ek h n d v then choose z else .non
theorem zKo {h:Heap}{d:D}{v:Value}(q:Ek h n d v):kd h n v=d:=by
 have z:∃d,Ek h n d v:=⟨d,q⟩
 unfold kd
 rw[dif_pos z]
 exact(choose_spec z).inj q
theorem zZh {h:Heap}(r:A2 (Ek h n) ds vs):vs.map (kd h n)=ds:=by
 induction r with
 | nil=>rfl
 | cons q _ ih=>rw[xt,zKo q,ih]
theorem yBx {h:Heap}{vs:List Value}(al:∀v∈vs,∃d,Ek h n d v):A2 (Ek h n) (vs.map (kd h n)) vs:=by
 induction vs with
 | nil=>exact .nil
 | cons v vs ih=>
  obtain⟨d,q⟩:=al v (.head _)
  exact .cons (by rw[zKo q];exact q) (ih fun u hu=>al u (.tail _ hu))
theorem zL5:∀(l:List Value),l.zip l=l.map fun v=>(v,v)
 | []=>rfl
 | x::l=>by rw[uJ,zL5 l];rfl
theorem zRe {κ:SortKind}(hκ:Kd κ n) (hz:vs.length<=63) (h:A2 (Ek s.heap n) ds vs) (hu:A.units+n<cLine) {Q:SortSt->Shared->Prop}
  (hQ:∀(st:SortSt) (vs':List Value),vs'.Perm vs->A2 (Ek s.heap n) (srt ds) vs'->failedOf st=none->(arrOf st).map (·.2)=vs'.toArray->Q st s):
  wpAny (model prog w) A ((sortRuns').run (SortSt.mk' κ (vs.toArray.zip vs.toArray) #[] 7 none)) (fun r s'=>Q r.2 s') E s:=by
 have za:(vs.toArray.zip vs.toArray).toList=vs.map fun v=>(v,v):=by
  rw[Array.toList_zip]
  exact zL5 vs
 have mem:∀x∈vs.toArray.zip vs.toArray,∃v∈vs,x=(v,v):=fun x hx=>by
  have:x∈vs.map fun v=>(v,v):=by rw[<- za];exact Array.mem_toList_iff.mpr hx
  obtain⟨v,hv,e⟩:=xq.mp this
  exact⟨v,hv,e.symm⟩
 have C:Cm prog w A s κ (fun x=>rkD ds (kd s.heap n x.1)) (fun x=>x∈vs.toArray.zip vs.toArray):=fun x y hx hy Q E' q=>by
  obtain⟨v,hv,rfl⟩:=mem x hx
  obtain⟨u,hu',rfl⟩:=mem y hy
  obtain⟨d,hd,k1⟩:=h.mem_r v hv
  obtain⟨e,he,k2⟩:=h.mem_r u hu'
  refine zZg hκ k1 k2 hu ?_
  have hl:∀x∈ds,lv n x:=fun x hx=>by obtain⟨b,_,r⟩:=h.mem_l x hx;exact r.lv
  have q2:Q (decide (rkD ds (kd s.heap n v)<rkD ds (kd s.heap n u))) s:=q
  rw[zKo k1,zKo k2,zV0 hl hd he]at q2
  exact q2
 refine vB (w_sr (E:=E) (Q:=fun _ st=>∃vs':List Value,vs'.Perm vs/\A2 (Ek s.heap n) (srt ds) vs'/\failedOf st=none/\(arrOf st).map (·.2)=vs'.toArray) C (a₀:=vs.toArray.zip vs.toArray) (by simpa using hz) (fun x hx=>hx) (st:=SortSt.mk' κ (vs.toArray.zip vs.toArray) #[] 7 none) ⟨.refl _,rfl,rfl⟩ rfl fun st' B so=>?_) (fun r s' q=>?_) fun _ _ e=>e
 ·have pm:(arrOf st').toList.Perm (vs.map fun v=>(v,v)):=by rw[<- za];exact Array.perm_iff_toList_perm.mp B.perm
  have p2:((arrOf st').toList.map (·.2)).Perm vs:=by
   have:=pm.map (·.2)
   rw[xP]at this
   rwa[show vs.map ((fun x:Value × Value=>x.2) ∘ fun v=>(v,v))=vs from List.map_id' vs]at this
  have al:∀v∈(arrOf st').toList.map (·.2),∃d,Ek s.heap n d v:=fun v hv=>by
   obtain⟨d,_,q⟩:=h.mem_r v (p2.mem_iff.mp hv)
   exact⟨d,q⟩
  have a2:=yBx al
  refine⟨_,p2,?_,B.failed,by apply Array.toList_inj.mp;rw[Array.toList_map]⟩
  have pd:(((arrOf st').toList.map (·.2)).map (kd s.heap n)).Perm ds:=by
   have:=p2.map (kd s.heap n)
   rwa[zZh h]at this
  have up:Up (((arrOf st').toList.map (·.2)).map (kd s.heap n)):=by
   have hl:∀x∈ds,lv n x:=fun x hx=>by obtain⟨b,_,r⟩:=h.mem_l x hx;exact r.lv
   have sz:(arrOf st').size=(vs.toArray.zip vs.toArray).size:=B.size
   rw[<- sz]at so
   have pw:=so.pw
   rw[xP]
   refine List.pairwise_map.mpr (pw.imp_of_mem fun {x y} hx hy q=>?_)
   have ex:∀x∈(arrOf st').toList,x.1=x.2/\kd s.heap n x.2∈ds:=fun x hx=>by
    obtain⟨v,hv,rfl⟩:=xq.mp (pm.mem_iff.mp hx)
    obtain⟨d,hd,k⟩:=h.mem_r v hv
    exact⟨rfl,by show kd s.heap n v∈ds;rw[zKo k];exact hd⟩
   obtain⟨e1,m1⟩:=ex x hx
   obtain⟨e2,m2⟩:=ex y hy
   dsimp only at q
   rw[e1,e2]at q
   show blt (kd s.heap n y.2) (kd s.heap n x.2)=false
   rw[<- zV0 hl m2 m1]
   exact xu (by nofun)
  rw[<- zNt (fun y hy=>by obtain⟨b,_,r⟩:=a2.mem_l y hy;exact r.lv) pd up]
  exact a2
 ·obtain⟨rfl,vs',a,b,c,d⟩:=q
  exact hQ _ vs' a b c d
theorem Ek.kept' {h h':Heap}{a:Addr}{o₀:Obj}(ho:h.get? a=some o₀) (hc:o₀.cls≠.type "tuple") (k:∀b o,b≠a->h.get? b=some o->h'.get? b=some o) {d:D}{v:Value}(x:Ek h n d v):Ek h' n d v:=
 x.kept fun b o e ec=>k b o (fun z=>by subst z;rw[ho]at e;cases e;exact hc ec) e
theorem zO7 {a:Addr}{c₀:Nat}{P:PySem.Fin->Shared->Prop}(ho:s.heap.get? a=some (seqObj "list" vs.toArray c₀)) (hk:A2 (Ek s.heap n) ds vs) (hz:vs.length<=63) (hu:A.units+n<cLine)
  (h:∀(vs':List Value) (c:Nat) (h':Heap),vs'.Perm vs->A2 (Ek h' n) (srt ds) vs'->(∀b o,b≠a->s.heap.get? b=some o->h'.get? b=some o)->h'.get? a=some (seqObj "list" vs'.toArray c)->P (.done (.ret .none)) { s with heap:=h' }):
  wpAny (model prog w) A (Builtin.«list.sort» ⟨[.ref a],[]⟩) P E s:=by
 have lz:vs.length<=sizeLine:=by rw[vO];lia
 rw[list_sort_plain]
 refine xa (listItems_at ho rfl (xa (listUpdate_at ho rfl ?_ (by simpa using lz) (xR _))))
 obtain⟨e1,ho1⟩:∃e1,(s.heap.update a (Obj.mapSeq fun _=>(#[]:Array Value))).get? a=some (seqObj "list" #[] e1):=⟨_,get?_update_seq ho fun _=>#[]⟩
 have k1:∀b o,b≠a->s.heap.get? b=some o->(s.heap.update a (Obj.mapSeq fun _=>(#[]:Array Value))).get? b=some o:=fun b o hb e=>(yh _ _ (xw hb)).trans e
 generalize s.heap.update a (Obj.mapSeq fun _=>(#[]:Array Value))=g1 at ho1 k1 ⊢
 refine xa (seqEpoch_at ho1 rfl (xa (wpAny_newTuple (xa (wpAny_newList (xK ?_) (xR _))) (by simpa using lz))))
 have ho2:=xn (seqObj "list" #[] 0) (xn (seqObj "tuple" vs.toArray 0) ho1)
 have k2:∀b o,b≠a->s.heap.get? b=some o->((g1.push (seqObj "tuple" vs.toArray 0)).push (seqObj "list" #[] 0)).get? b=some o:=fun b o hb e=>xn _ (xn _ (k1 b o hb e))
 show wpAny (model prog w) A _ P E { s with heap:=(g1.push (seqObj "tuple" vs.toArray 0)).push (seqObj "list" #[] 0) }
 generalize (g1.push (seqObj "tuple" vs.toArray 0)).push (seqObj "list" #[] 0)=g2 at ho2 k2 ⊢
 dsimp only
 have hk2:A2 (Ek g2 n) ds vs:=hk.imp fun _ _ q=>q.kept' ho (show Value.type "list"≠Value.type "tuple" by decide) k2
 have fin:∀(st:SortSt) (vs':List Value),vs'.Perm vs->A2 (Ek g2 n) (srt ds) vs'->failedOf st=none->(arrOf st).map (·.2)=vs'.toArray->
   wpAny (model prog w) A (do
    let touched:=(<- seqEpoch a) != e1
    Builtin.List.listUpdate (.ref a) fun _=>(arrOf st).map (·.2)
    if let some e:=failedOf st then rule "list.sort.comparison-raised";throw e
    if touched then rule "list.sort.modified";raiseError "ValueError" "list modified during sort"
    ret .none) P E { s with heap:=g2 }:=fun st vs' pm a2 hf ha=>by
  refine xa (seqEpoch_at ho2 rfl ?_)
  rw[ha]
  refine xa (listUpdate_at ho2 rfl ?_ (xR _) (by simp;rw[pm.length_eq];exact Nat.le_succ_of_le lz))
  rw[hf]
  simp only[bne_self_eq_false,vo,xV]
  obtain⟨c,hc⟩:∃c,(g2.update a (Obj.mapSeq fun _=>vs'.toArray)).get? a=some (seqObj "list" vs'.toArray c):=⟨_,get?_update_seq ho2 fun _=>vs'.toArray⟩
  have k3:∀b o,b≠a->g2.get? b=some o->(g2.update a (Obj.mapSeq fun _=>vs'.toArray)).get? b=some o:=fun b o hb e=>(yh _ _ (xw hb)).trans e
  exact xh (h vs' c _ pm (a2.imp fun _ _ q=>q.kept' ho2 (show Value.type "list"≠Value.type "tuple" by decide) k3) (fun b o hb e=>k3 b o hb (k2 b o hb e)) hc)
 by_cases c2:vs.toArray.size<2
 ·rw[xf c2,xf c2]
  refine xa (xh ?_)
  rw[StateT.run_pure]
  refine xa (xh ?_)
  refine fin (SortSt.mk' general' (vs.toArray.zip vs.toArray) #[] 7 none) vs (.refl _) ?_ rfl ?_
  ·have:srt ds=ds:=by
    have hl:ds.length<2:=by rw[hk.length];simpa using c2
    match ds,hl with
    | [],_=>rfl
    | [d],_=>rfl
   rw[this];exact hk2
  ·show((vs.toArray.zip vs.toArray)).map (·.2)=_
   apply Array.toList_inj.mp
   simp[List.map_snd_zip]
 ·rw[xg c2,xg c2]
  refine xa (zWe (s:={ s with heap:=g2 }) hk2 (fun z=>by subst z;simp at c2) fun κ hκ=>?_)
  refine xa (vB (zRe (s:={ s with heap:=g2 }) (Q:=fun st s'=>s'={ s with heap:=g2 }/\∃vs',vs'.Perm vs/\A2 (Ek g2 n) (srt ds) vs'/\failedOf st=none/\(arrOf st).map (·.2)=vs'.toArray) hκ hz hk2 hu fun st vs' a b c d=>⟨rfl,vs',a,b,c,d⟩) ?_ fun _ _ e=>e)
  rintro⟨⟨⟩,st⟩ s' ⟨rfl,vs',a1,a2,a3,a4⟩
  exact fin st vs' a1 a2 a3 a4
theorem zFo {r:Value}{m:Nat}{G:List D->List Value->Prop}{Q:Value->Shared->Prop}(hu:A.units+2+n<cLine)
  (hcol:∀R:List Value->Shared->Prop,(∀(h':Heap) (tk:Nat) (ds:List D) (vs:List Value),m<=h'.objs.size->(∀b o,s.heap.get? b=some o->h'.get? b=some o)->A2 (Ek h' n) ds vs->vs.length<=63->G ds vs->R vs { s with heap:=h',toks:=tk })->wpAny (model prog w) A.in1 (collect r) R E s)
  (h:∀(ds:List D) (vs vs':List Value) (c tk:Nat) (h':Heap) (L:Addr),G ds vs->vs.length<=63->vs'.Perm vs->A2 (Ek h' n) (srt ds) vs'->m<=L->(∀b o,s.heap.get? b=some o->h'.get? b=some o)->h'.get? L=some (seqObj "list" vs'.toArray c)->Q (.ref L) { s with heap:=h',toks:=tk }):
  wpAny (model prog w) A (call (.builtin "sorted") [r]) Q E s:=by
 refine Calls.call_function_entry kind_sorted plain_sorted entry_sorted (args_sorted1 _) ?_
 unfold Builtin.«sorted»
 refine xa (m:=checkCount "sorted" 1 1 _) (xh (xa (hcol _ fun h' tk ds vs sz kp hk hz hg=>?_)))
 have lz:vs.length<=sizeLine:=by rw[vO];lia
 refine xa (wpAny_newList ?_ (by simpa using lz))
 have hoL:(h'.push (seqObj "list" vs.toArray 0)).get? h'.objs.size=some (seqObj "list" vs.toArray 0):=xA _ rfl
 have k0:∀b o,h'.get? b=some o->(h'.push (seqObj "list" vs.toArray 0)).get? b=some o:=fun b o e=>xn _ e
 refine xa (xK (vh slot_list_sort ⟨_,hoL,rfl⟩ entry_list_sort (zO7 (s:={ s with heap:=h'.push (seqObj "list" vs.toArray 0),toks:=tk }) hoL (hk.imp fun _ _ q=>q.kept fun b o e _=>k0 b o e) hz (by show A.units+1+1+n<cLine;lia) fun vs' c h2 pm a2 k2 hD=>⟨_,rfl,?_⟩) (args_list_sort _)))
 exact xh ⟨_,rfl,h ds vs vs' c tk h2 _ hg hz pm a2 sz (fun b o e=>k2 b o (xr (xo (kp b o e))) (k0 b o (kp b o e))) hD⟩
end
end EK
namespace EK
open PySem PyProof.Rows PySem.W TM
open DS (D)
section
variable {prog:Program}{w:World}{A:Around}{E:Value->Shared->Prop}{s:Shared}{n:Nat}{ds:List D}{vs:List Value}
theorem zX6 {l:Addr}{o:Obj}{k:Nat}{T:String}{R:List Value->Shared->Prop}(ho:s.heap.get? l=some o) (hc:o.cls=.type T) (hT:T="list"\/T="tuple") (hd:o.data=.seq vs.toArray k) (hz:vs.length<=sizeLine)
  (h:∀h':Heap,s.heap.objs.size<=h'.objs.size->(∀b o,s.heap.get? b=some o->h'.get? b=some o)->R vs { s with heap:=h' }):wpAny (model prog w) A (collect (.ref l)) R E s:=by
 have kp:∀b o,s.heap.get? b=some o->((s.heap.push (seqObj "list" #[] 0)).update s.heap.objs.size (Obj.mapSeq (·++vs.toArray))).get? b=some o:=fun b o e=>(yh _ _ (xw (xr (xo e)))).trans (xn _ e)
 have hq:=h _ (by rw[Heap.size_update,size_push'];omega) kp
 unfold collect
 refine xa (wpAny_runValue (uu entry_proto_collect' (show wpAny _ _ (newList [] >>= fun x=>again (.builtin "list.__iadd__" ⟨[x,.ref l],[]⟩)) _ _ s from xa (wpAny_newList (xh ⟨Code.quiet_builtin _ (by decide +kernel),uu entry_list_iadd' ?_⟩)))))
 have q1:∀x y:Value,Builtin.«list.__iadd__» ⟨[x,y],[]⟩=Builtin.List.listExtendWith x y x:=fun x y=>rfl
 rw[q1]
 unfold Builtin.List.listExtendWith
 have ho':(s.heap.push (seqObj "list" #[] 0)).get? l=some o:=xn _ ho
 refine xa (vY (T:=T) ⟨o,ho',hc⟩ ?_)
 rw[xf (by rcases hT with rfl|rfl <;> simp[show(Value.type "list" == Value.type "list")=true from rfl,show(Value.type "tuple" == Value.type "tuple")=true from rfl])]
 refine xa (listItems_at ho' hd (xa (listItems_at (xs:=#[]) (n:=0) (xA _ rfl) rfl ?_)))
 rw[xg (by simp)]
 refine xa (listUpdate_at (xs:=#[]) (n:=0) (xA _ rfl) rfl (xh ?_) (xR _) (by show(#[]++vs.toArray).size<=sizeLine+1;simp only[Array.size_append,xx,v7];omega))
 refine(show wpAny (model prog w) A (load s.heap.objs.size >>= fun o=>match o.data with|.seq xs _=>pure xs.toList|_=>unsupported "internal:collect") R E _ from xa (wpAny_load (get?_update_seq (xA _ rfl) _) ?_))
 show wpAny _ _ (pure ((#[]:Array Value)++vs.toArray).toList) R E _
 rw[show((#[]:Array Value)++vs.toArray).toList=vs by simp]
 exact xh hq
end
end EK
namespace TU
open PySem TB EK TS
open TS (sObj Tab.ft TabP.ft gate adr)
open DS (D)
open Classical
section
variable {prog:Program}{w:World}{A:Around}{E:Value->Shared->Prop}{s:Shared}{dp:Nat}
noncomputable abbrev EA (h:Heap) (dp:Nat) (k:D) (a:Addr):Prop:=Ek h (dp+1) k (.ref a)
theorem unseen (hdp:dp+1<=8) {a:Addr}{ks:D}{l:List Value}{Q:Bool->Shared->Prop}(hk:EA s.heap dp ks a) (hl:∀v∈l,∃b ls,v=.ref b/\EA s.heap dp ls b) (h:Q false s):
  wpAny (model prog w) A (searchCouldBeSeen (.ref a) l) Q E s:=by
 unfold searchCouldBeSeen
 refine xa (uM _ (fun rest r s'=>r.1=none/\s'=s/\∀v∈rest,∃b ls,v=.ref b/\EA s.heap dp ls b) _ ?_ ?_ _ _ ⟨rfl,rfl,hl⟩)
 ·rintro v rest r s' ⟨hr,rfl,al⟩
  obtain⟨b,ls,rfl,hb⟩:=al v xQ
  have rest':∀v∈rest,∃b ls,v=.ref b/\EA s'.heap dp ls b:=fun u hu=>al u (vt _ hu)
  dsimp only
  split
  ·exact xh ⟨rfl,rfl,rest'⟩
  ·refine xa (zId (dp+1) 8 hk hdp ?_)
   rw[xg (by decide)]
   refine xa (zId (dp+1) 8 hb hdp ?_)
   rw[xg (by decide)]
   refine xa (zIe (dp+1) 8 hk hdp ?_)
   rw[xg (by decide)]
   refine xa (zIe (dp+1) 8 hb hdp ?_)
   rw[xg (by decide)]
   exact xh ⟨rfl,rfl,rest'⟩
 ·rintro⟨r1,r2⟩ s' ⟨hr,rfl,_⟩
  simp only at hr
  subst hr
  exact xh h
noncomputable def kv (κ:Addr->D) (e:Int × Value):D:=κ (adr e.2)
noncomputable def Els (dp:Nat) (κ:Addr->D) (h:Heap) (es:Array (Int × Value)):Prop:=∀e∈es.toList,∃b,e.2=.ref b/\EA h dp (κ b) b/\e.1=hD (κ b)
theorem search {κ:Addr->D}{S x:Addr}{es:Array (Int × Value)}{ep:Nat}{t:SetTable}{b:Bool}{Q:SetFound->Shared->Prop}(hdp:dp+1<=8) (hu:A.units+(dp+1)<cLine) (ho:s.heap.get? S=some (sObj es ep t)) (T:Tab t es.size b)
  (hk:EA s.heap dp (κ x) x) (he:Els dp κ s.heap es) (h1:(∃e∈es.toList,kv κ e=κ x)->Q (.there none) s)
  (h2:∀M,t.slot (adv t M (t.probeStart (hD (κ x)))).j=.empty->(∀m',m'<M->∃i,∃hi:i<es.size,t.slot (adv t m' (t.probeStart (hD (κ x)))).j=.live i/\(es[i].1≠hD (κ x)\/kv κ es[i]≠κ x))->Q (.free (adv t M (t.probeStart (hD (κ x)))).j false) s):
  ∀(f m c:Nat) (st:Option SetTable.Probe),m<f->m<10*SetTable.turns t.mask->st.getD (t.probeStart (hD (κ x)))=adv t c (t.probeStart (hD (κ x)))->
   (∀m',m'<c->∃i,∃hi:i<es.size,t.slot (adv t m' (t.probeStart (hD (κ x)))).j=.live i/\(es[i].1≠hD (κ x)\/kv κ es[i]≠κ x))->
   Far t (adv t c (t.probeStart (hD (κ x)))) m->wpAny (model prog w) A (setSearchFrom S (.ref x) (hD (κ x)) true f st) Q E s:=by
 generalize ehx:hD (κ x)=hx at h2 ⊢
 have lv:∀{j i:Nat},t.slot j=.live i->i<es.size:=fun {j i} hj=>by
  obtain⟨z,_⟩:=vZ.mp (zKl T hj)
  rw[T.size]at z;exact z
 intro f
 induction f with
 | zero=>intro m c st hm;lia
 | succ f ih=>
  intro m c st hm hm2 est seen fr
  unfold setSearchFrom
  refine xa (uv ho rfl (Tab.ft T) ?_)
  dsimp only
  rw[T.way]
  rw[xg (by decide)]
  unfold SetTable.probe
  rw[est]
  have more:∀d,(∀d',d'<d->∃i,t.slot (adv t d' (adv t c (t.probeStart hx))).j=.live i/\(((es[i]?.map (·.1)).getD 0 == hx)=false))->∀m',m'<c+d->∃i,∃hi:i<es.size,t.slot (adv t m' (t.probeStart hx)).j=.live i/\(es[i].1≠hx\/kv κ es[i]≠κ x):=fun d hd m' hm'=>by
   rcases vC m' c with z|z
   ·exact seen m' z
   ·obtain⟨d',rfl⟩:∃d',m'=c+d':=⟨m' - c,by nofun⟩
    obtain⟨i,e1,e2⟩:=hd d' (by nofun)
    rw[<- zDc]at e1
    have hi:=lv e1
    refine⟨i,hi,e1,.inl fun z=>?_⟩
    rw[vx hi]at e2
    have:(es[i].1 == hx)=false:=e2
    rw[z]at this;simp at this
  rcases zGy (hashAt:=_) (h:=hx) T.nod _ m _ hm2 fr with⟨d,_,e,hj,hd⟩|⟨d,i,hlt,e,hj,hd,fr'⟩
  ·rw[e]
   dsimp only
   rw[<- zDc]at hj ⊢
   exact xh (h2 (c+d) hj (more d hd))
  ·rw[e]
   dsimp only
   have hi:i<es.size:=lv hj
   have ei:es[i]?=some es[i]:=vx hi
   obtain⟨y,ey,hy,eyh⟩:=he es[i] (by simp)
   have e2:es[i]?=some (es[i].1,.ref y):=by rw[ei,<- ey]
   have ky:kv κ es[i]=κ y:=by unfold kv;rw[ey];rfl
   rw[e2]
   dsimp only
   refine gate (fun Q' hq=>unseen hdp hk (fun v hv=>?_) hq) ?_
   ·obtain⟨e',he',rfl⟩:=xq.mp hv
    obtain⟨b',q1,q2,_⟩:=he e' (by
     have:=Array.mem_filter.mp (Array.mem_toList_iff.mp he')
     exact Array.mem_toList_iff.mpr this.1)
    exact⟨b',_,q1,q2⟩
   refine xa (xK (zNc (dp+1) hy hk hu ?_))
   refine xa (uv ho rfl (Tab.ft T) ?_)
   dsimp only
   by_cases cc:κ y=κ x
   ·rw[xv cc]
    exact xh (h1 ⟨es[i],by simp,ky.trans cc⟩)
   ·rw[xu cc]
    rw[xg (by decide)]
    have em:t.sameMemory t.moves t.mask=some true:=by unfold SetTable.sameMemory;simp
    rw[em]
    dsimp only
    rw[xf rfl,hj]
    dsimp only
    rw[e2]
    dsimp only
    refine xa (wpAny_isSame_ref_self ?_)
    rw[xf rfl]
    refine xa (xh ?_)
    dsimp only
    rw[xg (by decide)]
    refine ih (m-(d+1)) (c+(d+1)) _ (by nofun) (by nofun) (zDc t c (d+1) _).symm ?_ (by rw[zDc];exact fr')
    intro m' hm'
    rcases vC m' (c+d)with z|z
    ·exact more d hd m' z
    ·have:m'=c+d:=by nofun
     subst this
     rw[<- zDc]at hj
     exact⟨i,hi,hj,.inr (by rw[ky];exact cc)⟩
noncomputable def IsS (dp:Nat) (κ:Addr->D) (h:Heap) (S:Addr) (es:Array (Int × Value)) (b:Bool):Prop:=∃ep t,h.get? S=some (sObj es ep t)/\Tab t es.size b/\Els dp κ h es/\Chs t (es.toList.map (·.1))/\(es.toList.map (kv κ)).Nodup
theorem Els.keeps {κ:Addr->D}{h h':Heap}{S:Addr}{es es':Array (Int × Value)}{ep:Nat}{t:SetTable}(he:Els dp κ h es) (ho:h.get? S=some (sObj es' ep t)) (hs:Heap.SameBut S h h'):Els dp κ h' es:=fun e hm=>by
 obtain⟨b,e1,q,e2⟩:=he e hm
 refine⟨b,e1,q.kept fun c o ec et=>(hs.2 c fun z=>?_).trans ec,e2⟩
 subst z
 rw[ho]at ec
 cases ec
 exact absurd (show Value.type "set"=Value.type "tuple" from et) (by decide)
theorem zPu {κ:Addr->D}{x:Addr}{es:Array (Int × Value)}{t:SetTable}{b:Bool}{h:Heap}{M:Nat}(T:Tab t es.size b) (he:Els dp κ h es) (C:Chs t (es.toList.map (·.1))) (hM:t.slot (adv t M (t.probeStart (hD (κ x)))).j=.empty)
  (seen:∀m',m'<M->∃i,∃hi:i<es.size,t.slot (adv t m' (t.probeStart (hD (κ x)))).j=.live i/\(es[i].1≠hD (κ x)\/kv κ es[i]≠κ x)):κ x ∉ es.toList.map (kv κ):=by
 intro hm
 obtain⟨e,hem,ek⟩:=xq.mp hm
 obtain⟨i,hi,rfl⟩:=v8.mp hem
 have hi':i<es.size:=by simpa using hi
 obtain⟨y,ey,_,eh⟩:=he _ hem
 have ky:κ y=κ x:=by
  have:kv κ es.toList[i]=κ y:=by unfold kv;rw[ey];rfl
  rw[<- this,ek]
 rw[ky]at eh
 have hp:i<t.place.size:=by rw[T.size];exact hi'
 obtain⟨m,em,al⟩:=C (t.place[i],es.toList[i].1) (v8.mpr ⟨i,by have:i<min t.place.size es.size:=Nat.lt_min.mpr ⟨hp,hi'⟩;simpa using this,by simp⟩)
 dsimp only at em al
 rw[eh]at em al
 rcases Nat.lt_trichotomy m M with z|z|z
 ·obtain⟨i',hi2,q1,q2⟩:=seen m z
  rw[em]at q1
  have q3:=zKl T q1
  obtain⟨z3,e3⟩:=vZ.mp q3
  have:i'=i:=zXl T.up (by simpa using z3) (by simpa using hp) (by simpa using e3)
  subst this
  rcases q2 with q2|q2
  ·exact q2 (by simpa using eh)
  ·exact q2 (by simpa using ek)
 ·subst z
  rw[em]at hM
  exact(zJk T _).mp hM (by simp)
 ·exact(zJk T _).mp hM (al M z)
theorem zR5 {κ:Addr->D}{S x:Addr}{es:Array (Int × Value)}{b:Bool}{Q:Bool->Shared->Prop}(hdp:dp+1<=8) (hu:A.units+(dp+1)<cLine) (hS:IsS dp κ s.heap S es b) (hk:EA s.heap dp (κ x) x) (hn:es.size<300)
  (h1:(∃e∈es.toList,kv κ e=κ x)->Q false s) (h2:∀h' es',Heap.SameBut S s.heap h'->IsS dp κ h' S es' b->es'.toList.Perm ((hD (κ x),.ref x)::es.toList)->Q true { s with heap:=h' }):
  ∀f,wpAny (model prog w) A (setAddHashedIn S (.ref x) (hD (κ x)) (f+1)) Q E s:=by
 intro f
 obtain⟨ep,t,ho,T,he,C,nd⟩:=hS
 unfold setAddHashedIn
 refine xa (uv ho rfl (Tab.ft T) ?_)
 dsimp only
 have eb:byScan (.ref x) es=false:=by unfold byScan;rfl
 rw[eb]
 rw[xg (by decide)]
 obtain⟨m,hm,fr⟩:=T.start (hD (κ x))
 refine xa (search hdp hu ho T hk he (fun q=>?_) (fun M hM seen=>?_) 100000 m 0 none (vH hm T.turns) hm rfl (fun m' h=>by nofun) fr)
 ·exact xh (h1 q)
 ·have fk:=zPu T he C hM seen
  have alM:∀m',m'<M->(adv t m' (t.probeStart (hD (κ x)))).j∈t.place.toList:=fun m' h=>by
   obtain⟨i,_,q,_⟩:=seen m' h
   exact zW8 T q
  obtain⟨C1,ep2⟩:=zV6 T (hs:=es.toList.map (·.1)) (by simp) C hM rfl alM
  have TP:=T.put hM
  generalize (adv t M (t.probeStart (hD (κ x)))).j=j at TP C1 ep2 ⊢
  dsimp only
  refine xa (uv ho rfl (Tab.ft T) ?_)
  dsimp only
  generalize ePT:t.put j=PT at TP C1 ep2
  obtain⟨t1,p⟩:=PT
  dsimp only at TP C1 ep2 ⊢
  rw[TP.plain]
  rw[xf rfl]
  refine xa (zM5 (dp+1) 8 hk hdp ?_)
  rw[xf rfl]
  generalize ehx:hD (κ x)=hx at C1 h2 ⊢
  have pm:=ins_perm es p (hx,Value.ref x)
  have sz:=zLy es p (hx,Value.ref x)
  have C2:Chs t1 ((SetTable.insertAt es p (hx,Value.ref x)).toList.map (·.1)):=by
   rw[zFg,xX,xt,List.map_take,List.map_drop]
   exact C1
  generalize SetTable.insertAt es p (hx,Value.ref x)=es1 at pm sz C2 ⊢
  have nd1:(es1.toList.map (kv κ)).Nodup:=by
   refine(pm.map (kv κ)).nodup_iff.mpr ?_
   rw[xt]
   exact vP.mpr ⟨fk,nd⟩
  refine xa (wpAny_storeSet_of ho rfl ?_ (by rw[sz,vO];lia))
  have hg:(s.heap.update S (Obj.putSet es1 t1)).get? S=some (sObj es1 (ep+1) t1):=u4 (Obj.putSet es1 t1) ho rfl
  have sb:=uK s.heap S (Obj.putSet es1 t1)
  have he1:Els dp κ (s.heap.update S (Obj.putSet es1 t1)) es1:=fun e hm=>by
   rcases xm.mp (pm.mem_iff.mp hm)with rfl|hm
   ·exact Els.keeps (es:=#[(hx,Value.ref x)]) (fun e hm=>by
     have:e=(hx,Value.ref x):=by simpa using hm
     subst this;exact⟨x,rfl,hk,ehx.symm⟩) ho sb _ (by simp)
   ·exact Els.keeps he ho sb e hm
  rw[<- sz]at TP
  by_cases c:t1.tooFull=true
  ·rw[xf (by rw[c];rfl)]
   unfold setRelay
   refine xa (xa (uv (s:={ s with heap:=s.heap.update S (Obj.putSet es1 t1) }) hg rfl (TabP.ft TP) ?_))
   dsimp only
   obtain⟨hl,t2,order,er,T2,po,C3⟩:=zOi TP c (by nofun) (es1.map (·.1)) (by simp)
   rw[<- sz]
   rw[xg (by simpa using hl)]
   rw[er]
   have pe:(order.filterMap (es1[·]?)).toList.Perm es1.toList:=by
    rw[Array.toList_filterMap]
    refine(po.filterMap _).trans ?_
    have:=filterMap_getElem?_range es1
    rw[this]
   have zz:(order.filterMap (es1[·]?)).size=es1.size:=by rw[<- uB,pe.length_eq,uB]
   have C4:Chs t2 ((order.filterMap (es1[·]?)).toList.map (·.1)):=by
    have e5:(order.filterMap (es1[·]?)).toList.map (·.1)=order.toList.map fun k=>(es1.map (·.1)).toList.getD k 0:=by
     rw[Array.toList_filterMap]
     have al:∀k∈order.toList,k<es1.size:=fun k hk=>vq.mp (po.mem_iff.mp hk)
     clear C3 po er pe zz
     generalize order.toList=l at al
     induction l with
     | nil=>rfl
     | cons k l ih=>
      have hk:=al k (.head _)
      rw[uA,vx hk]
      simp only[xt]
      rw[ih fun k hk=>al k (.tail _ hk)]
      congr 1
      simp[hk]
    rw[e5];exact C3
   refine xa ?_
   show wpAny _ _ (if((order.filterMap (es1[·]?)).size != es1.size)=true then _ else pure (order.filterMap (es1[·]?),t2)) _ _ _
   rw[xg (by simp[zz])]
   refine xh ?_
   dsimp only
   generalize order.filterMap (es1[·]?)=es2 at pe zz C4 ⊢
   refine wpAny_storeSet_of hg rfl ?_ (by rw[zz,sz,vO];lia)
   have hg2:((s.heap.update S (Obj.putSet es1 t1)).update S (Obj.putSet es2 t2)).get? S=some (sObj es2 (ep+1+1) t2):=u4 (Obj.putSet es2 t2) hg rfl
   have sb2:=uK (s.heap.update S (Obj.putSet es1 t1)) S (Obj.putSet es2 t2)
   refine xh (h2 _ es2 (sb.trans sb2) ⟨_,_,hg2,by rw[zz];exact T2,?_,C4,(pe.map (kv κ)).nodup_iff.mpr nd1⟩ (pe.trans pm))
   exact Els.keeps (fun e hm=>he1 e (pe.mem_iff.mp hm)) hg sb2
  ·rw[xg (by simpa using c)]
   exact xh (h2 _ es1 sb ⟨_,_,hg,TP.tab (by simpa using c),he1,C2,nd1⟩ pm)
theorem add {κ:Addr->D}{S x:Addr}{es:Array (Int × Value)}{b:Bool}{Q:Bool->Shared->Prop}(hdp:dp+1<=8) (hu:A.units+(dp+1)<cLine) (hS:IsS dp κ s.heap S es b) (hk:EA s.heap dp (κ x) x) (hn:es.size<300)
  (h1:∀tk,s.toks<=tk->(∃e∈es.toList,kv κ e=κ x)->Q false { s with toks:=tk }) (h2:∀h' es' tk hx,s.toks<=tk->Heap.SameBut S s.heap h'->IsS dp κ h' S es' b->es'.toList.Perm ((hx,.ref x)::es.toList)->Q true { s with heap:=h',toks:=tk }):wpAny (model prog w) A (setAdd S (.ref x)) Q E s:=by
 unfold setAdd
 refine xK (xa (zQ1 (dp+1) hk hu fun tk htk=>?_))
 unfold setAddHashed
 refine xK ?_
 exact zR5 (s:={ s with toks:=tk }) hdp hu hS hk hn (fun q=>h1 _ htk q) (fun h' es' sb i p=>h2 h' es' _ _ htk sb i p) 99999
end
end TU
namespace TU
open PySem TB EK TS
open TS (sObj Tab.ft TabP.ft gate adr nObj zFw zLf)
open DS (D)
open Classical
section
variable {prog:Program}{w:World}{A:Around}{R:Result->Shared->Prop}{I:Addr}{fp wr:List Addr}{G:Array GenState->Array GenState->Prop}{n:Nat}{P:Nat->Value->Prop}{St:Nat->Shared->Prop}{dp:Nat}
noncomputable def Met (n:Nat) (P:Nat->Value->Prop) (es:Array (Int × Value)):Prop:=∀e∈es.toList,∃j,j<n/\P j e.2
theorem IsS.moved {κ:Addr->D}{h h':Heap}{S:Addr}{es:Array (Int × Value)}{b:Bool}{bad:List Addr}(i:IsS dp κ h S es b) (hS:S ∉ bad) (k:∀c o,c ∉ bad->h.get? c=some o->h'.get? c=some o) (hb:∀c∈bad,∀o,h.get? c=some o->o.cls≠.type "tuple"):IsS dp κ h' S es b:=by
 obtain⟨ep,t,ho,T,he,C,nd⟩:=i
 refine⟨ep,t,k _ _ hS ho,T,fun e hm=>?_,C,nd⟩
 obtain⟨c,e1,q,e2⟩:=he e hm
 exact⟨c,e1,q.kept fun b o eb et=>k _ _ (fun z=>hb b z o eb et) eb,e2⟩
noncomputable def Cov (κ:Addr->D) (n:Nat) (P:Nat->Value->Prop) (es:Array (Int × Value)):Prop:=∀j v,j<n->P j v->∃e∈es.toList,kv κ e=κ (adr v)
theorem loop {κ:Addr->D}(W:WalksS prog w A.in1 I fp wr G n P St) (S:Addr) (hSf:S ∉ fp) (hdp:dp+1<=8) (hu:A.in1.units+(dp+1)<cLine) (h0:Heap) (hP:∀i v,P i v->∃a,v=.ref a/\EA h0 dp (κ a) a) (hbad:∀c∈S::wr,∀o,h0.get? c=some o->o.cls≠.type "tuple") (hPf:∀i v v',P i v->P i v'->v=v') (hn:n<=299) {led:Bool}
  (hwr:∀i s,St i s->∀c∈wr,∀o,s.heap.get? c=some o->o.cls≠.type "tuple"):
  ∀(k i:Nat) (s:Shared) (es:Array (Int × Value)),n-i=k->i<=n->St i s->IsS dp κ s.heap S es led->es.size<=i->Met n P es->Cov κ i P es->(∀c o,c ∉ S::wr->h0.get? c=some o->s.heap.get? c=some o)->
   (∀s' es',Moved (S::wr) G s s'->IsS dp κ s'.heap S es' led->es'.size<=n->Met n P es'->Cov κ n P es'->R (.ok (.ret .none)) s')->
   codeAny (model prog w) A (.builtin "set.update.loop" ⟨[.ref S,.ref I],[]⟩) R s:=by
 have hSw:S ∉ wr:=fun h=>hSf (W.sub _ h)
 have sub:∀b∈wr,b∈S::wr:=fun b hb=>.tail _ hb
 intro k
 induction k with
 | zero=>
  intro i s es hk hi hst hS hz hM hC hkp hR
  obtain rfl:i=n:=by nofun
  refine uu PyProof.Rows.F.entry_set_update_loop ?_
  rw[yr yK _]
  show wpAny _ A.in1 (pyNext (.ref I) >>= _) _ _ s
  refine xa (W.done s _ _ hst fun s' hm=>?_)
  show wpAny _ A.in1 (ret Value.none) _ _ s'
  exact xh (hR s' es (hm.mono sub) (IsS.moved hS hSw hm.heap (hwr _ _ hst)) hz hM hC)
 | succ k ih=>
  intro i s es hk hi hst hS hz hM hC hkp hR
  have hlt:i<n:=by nofun
  refine uu PyProof.Rows.F.entry_set_update_loop ?_
  rw[yr yK _]
  show wpAny _ A.in1 (pyNext (.ref I) >>= _) _ _ s
  refine xa (W.item i s _ _ hlt hst fun v s' hp hst' hm=>?_)
  obtain⟨a,rfl,hq⟩:=hP i v hp
  have hk':EA s'.heap dp (κ a) a:=hq.kept fun b o eb et=>by
   have hb:b ∉ S::wr:=fun z=>hbad b z o eb et
   exact hm.heap b o (fun z=>hb (sub b z)) (hkp b o hb eb)
  have hS':=IsS.moved hS hSw hm.heap (hwr _ _ hst)
  show wpAny _ A.in1 (holding [Value.ref a] (setAdd S (.ref a)) >>= _) _ _ s'
  refine xa (xK (add hdp hu hS' hk' (by nofun) (fun tk htk there=>?_) (fun h' es' tk hx htk sb i' pm=>?_)))
  ·refine xh ⟨u3 yK _,ih (i+1) { s' with toks:=tk } es (by nofun) hlt (W.frame _ s' s'.heap tk hst' htk fun _ _ _ e=>e) hS' (by nofun) hM (fun j v' hj hv'=>?_) (fun c o hc e=>hm.heap c o (fun z=>hc (sub c z)) (hkp c o hc e)) fun s2 es2 m2 i2 z2 w2 c2=>?_⟩
   ·rcases vC j i with z|z
    ·exact hC j v' z hv'
    ·have:j=i:=by nofun
     subst this
     rw[hPf _ _ _ hv' hp]
     exact there
   ·exact hR s2 es2 (Moved.trans W.gtrans ((hm.mono sub).then_heap (h':=s'.heap) htk fun _ _ _ e=>e) m2) i2 z2 w2 c2
  ·have hsz:es'.size=es.size+1:=by have:=pm.length_eq;simpa using this
   refine xh ⟨u3 yK _,ih (i+1) { s' with heap:=h',toks:=tk } es' (by nofun) hlt (W.frame _ s' h' tk hst' htk fun c hc o e=>?_) i' (by nofun) (fun e he=>?_) (fun j v' hj hv'=>?_) (fun c o hc e=>?_) fun s2 es2 m2 i2 z2 w2 c2=>?_⟩
   ·rw[sb.2 c fun z=>hSf (z ▸ hc)];exact e
   ·rcases xm.mp (pm.mem_iff.mp he)with rfl|he
    ·exact⟨i,hlt,hp⟩
    ·exact hM e he
   ·rcases vC j i with z|z
    ·obtain⟨e,he,ek⟩:=hC j v' z hv'
     exact⟨e,pm.mem_iff.mpr (vt _ he),ek⟩
    ·have:j=i:=by nofun
     subst this
     rw[hPf _ _ _ hv' hp]
     exact⟨(hx,.ref a),pm.mem_iff.mpr xQ,rfl⟩
   ·rw[sb.2 c fun z=>hc (z ▸ xQ)]
    exact hm.heap c o (fun z=>hc (sub c z)) (hkp c o hc e)
   ·refine hR s2 es2 (Moved.trans W.gtrans ((hm.mono sub).then_heap (h':=h') htk fun c o hc e=>?_) m2) i2 z2 w2 c2
    rw[sb.2 c fun z=>hc (z ▸ xQ)];exact e
end
section
variable {prog:Program}{w:World}{A:Around}{E:Value->Shared->Prop}{s:Shared}{dp:Nat}
theorem zRi {κ:Addr->D}{l:Addr}{items:Array Value}{Q:Value->Shared->Prop}(hh:A.handled=none) (hl:s.heap.IsList l items) (hdp:dp+1<=8) (hu:A.units+20<cLine) (hn:items.size<=299)
  (hk:∀v∈items.toList,∃a,v=.ref a/\EA s.heap dp (κ a) a)
  (h:∀(h':Heap) (tk:Nat) (es:Array (Int × Value)),IsS dp κ h' s.heap.objs.size es (zFw w)->es.size<=items.size->(∀e∈es.toList,e.2∈items.toList)->(∀v∈items.toList,∃e∈es.toList,kv κ e=κ (adr v))->
   (∀b o,b<s.heap.objs.size->s.heap.get? b=some o->h'.get? b=some o)->Q (.ref s.heap.objs.size) { s with heap:=h',toks:=tk }):
  wpAny (model prog w) A (call (.type "set") [.ref l]) Q E s:=by
 obtain⟨cc,tl,hmro⟩:=uz.mro;have hmade:=uz.made;have hsub:=uz.sub
 refine wpAny_call (codeAny_of_tree (show wpAny _ _ (callAny (.type "set") _) _ _ _ from ?_))
 refine xh ⟨Code.quiet_builtin _ (by decide +kernel),uu F.entry_type_call ?_⟩;rw[Around.under_plain (weight_type_call_type "set" [.ref l] []) rfl]
 have h1:=uz.notType;have h2:=uz.canCreate;have hct:=F.typeCall_set_1 (.ref l)
 repeat (any_goals (first|assumption|wp_step))
 refine codeAny_mono (zLf (.ref l) (E:=E) (Q₁:=fun obj s₁=>obj=.ref s.heap.objs.size/\s₁={ s with heap:=s.heap.push (nObj w) }) ⟨rfl,rfl⟩) fun r s₁ hr=>?_
 cases r with
 | error e=>exact hr
 | ok fl=>
  cases fl with
  | ret obj=>
   obtain⟨rfl,rfl⟩:=hr
   have hS:(s.heap.push (nObj w)).get? s.heap.objs.size=some (nObj w):=xA _ rfl
   have hT:Shared.TypeIs { s with heap:=s.heap.push (nObj w) } (.ref s.heap.objs.size) "set":=⟨_,hS,rfl⟩
   have hli:=uz.init.lookup;have hbi:=uz.init.bind (.ref s.heap.objs.size)
   repeat (any_goals (first|assumption|wp_step))
   refine codeAny_mono (codeAny_call_builtin (R:=wants (fun r s₂=>r=.none/\∃h' tk es,s₂={ s with heap:=h',toks:=tk }/\IsS dp κ h' s.heap.objs.size es (zFw w)/\es.size<=items.size/\(∀e∈es.toList,e.2∈items.toList)/\(∀v∈items.toList,∃e∈es.toList,kv κ e=κ (adr v)) /\
     (∀b o,b<s.heap.objs.size->s.heap.get? b=some o->h'.get? b=some o)) E) uz.init.plain F.entry_set_init (check_set_init_1 hT ?_)) fun r₂ s₂ hr₂=>?_
   ·have hlt:l<s.heap.objs.size:=by obtain⟨o,ho,_⟩:=hl;exact xo ho
    have hl1:(s.heap.push (nObj w)).IsList l items:=hl.push _
    have hTl:Shared.TypeIs { s with heap:=s.heap.push (nObj w) } (.ref l) "list":=by obtain⟨o,ho,hc,_⟩:=hl1;exact⟨o,ho,hc⟩
    have q1:=F.sub_list_set;have q2:=F.sub_list_frozenset;have q3:(Value.type "list" == Value.type "dict")=false:=by decide
    unfold Builtin.«set.__init__» noKeywords Builtin.Frozenset.updateFrom
    generalize hPI:pyIter=PI
    wp_walk
    subst hPI
    refine v9 hl1 (xa (wpAny_runValue ?_))
    have hs2:(s.heap.push (nObj w)).objs.size=s.heap.objs.size+1:=by rw[vw]
    have hneI:l≠(s.heap.push (nObj w)).objs.size:=by rw[hs2];exact xr (uH hlt)
    have hh3:A.in1.in1.in1.handled=none:=by simp[hh]
    have key:∀(i:Nat) (v:Value),items[i]?=some v->∃a,v=.ref a/\EA s.heap dp (κ a) a:=fun i v hv=>hk v (by obtain⟨z,e⟩:=vZ.mp hv;rw[<- e];simp)
    have bad:∀c∈s.heap.objs.size::[(s.heap.push (nObj w)).objs.size],∀o,s.heap.get? c=some o->o.cls≠.type "tuple":=fun c hc o e=>by
     have:=xo e
     rw[hs2]at hc
     rcases xm.mp hc with rfl|hc
     ·exact absurd this (vA _)
     ·rw[xF.mp hc]at this
      exact absurd this (Nat.not_lt.mpr (Nat.le_succ _))
    have kp:∀c o,s.heap.get? c=some o->((s.heap.push (nObj w)).push { cls:=.type "list_iterator",data:=.fields #[.ref l,.int 0 0] }).get? c=some o:=fun c o e=>xn _ (xn _ e)
    refine loop (h0:=s.heap) (led:=zFw w) ((Walks.list hh3 _ l hneI items).toS) s.heap.objs.size ?nA hdp (by show A.units+1+1+1+(dp+1)<cLine;lia) key bad (fun i v v' q q'=>xJ (q.symm.trans q')) hn ?nB (items.size-0) 0 _ #[] (by nofun) (xR _) ⟨⟨_,xA _ rfl,rfl,rfl⟩,hl1.push _⟩
     ⟨0,_,xn _ hS,zPt _,(fun e he=>by cases he),(fun q hq=>by cases hq),List.nodup_nil⟩ (xR _) (fun e he=>by cases he) (fun j v hj=>by nofun) (fun c o _ e=>kp c o e) ?nD
    case nA=>
     rw[hs2];simp;exact uf hlt
    case nB=>
     rintro i s' ⟨⟨o,ho,hc,_⟩,_⟩ c hcm o' ho'
     have:c=(s.heap.push (nObj w)).objs.size:=by simpa using hcm
     subst this
     rw[ho]at ho';cases ho';rw[hc];decide
    case nD=>
     intro s' es' mv i' z' m' c'
     obtain⟨h',g',d',tk',os'⟩:=s'
     have eg:g'=s.gens:=mv.gens
     have ed:d'=s.drawn:=mv.drawn
     have eo:os'=s.os:=mv.os
     subst eg ed eo
     refine xh (show wpAny _ _ (ret Value.none) _ _ _ from xh ⟨rfl,h',tk',es',rfl,i',z',fun e he=>?_,fun v hv=>?_,fun b o hb e=>?_⟩)
     ·obtain⟨j,hj,hp⟩:=m' e he
      obtain⟨z,e2⟩:=vZ.mp hp
      rw[<- e2];simp
     ·obtain⟨j,hj,e2⟩:=v8.mp hv
      exact c' j v (by simpa using hj) (by rw[<- e2];simp)
     ·refine mv.heap b o ?_ (kp b o e)
      rw[hs2];simp only[xm,vd,ve,not_or]
      exact⟨xr hb,xr (uH hb)⟩
   ·cases r₂ with
    | error e=>exact hr₂
    | ok fl₂=>
     cases fl₂ with
     | ret r=>
      obtain⟨rfl,h',tk,es,rfl,i1,i2,i3,i4,i5⟩:=hr₂
      repeat (any_goals (first|assumption|wp_step))
      exact h _ _ _ i1 i2 i3 i4 i5
     | _=>exact hr₂.elim
  | _=>exact hr.elim
end
end TU
namespace DS
open PySem (Str)
noncomputable section
open Classical
noncomputable def sortable (l:List D):Prop:=l.length<=63/\∃n,n<=6/\∀x∈l,lv n x
noncomputable def zMn (S:Store):List D->Option D
 | [d]=>match items S d with
  | some l=>if sortable l then some (.lst (srt l))else none
  | none=>none
 | _=>none
noncomputable def setable (l:List D):Prop:=l.length<=63/\∃n,n+1<=6/\∀x∈l,lv (n+1) x
noncomputable def intB (_:Store):List D->Option D
 | [.int i]=>some (.int i)
 | [.bl b]=>some (.int (if b then 1 else 0))
 | _=>none
end
end DS
namespace L2
open PySem PySem.Spec PyProof.Rows EK
open DS (D Store Exn Rs SR lv srt)
section
variable {X:Cx}{K:PySem.W.Frag}{E:XE}{J:Js}{S:Store}{H:Hp}{d d1 d2:D}{v:V}{pins:List (Addr × Obj)}{σ:St}{s:Shared}
theorem zQ0 (I:Inv X pins σ H s):∀(n:Nat) {d:D}{v:V}{u:Value},lv n d->Rep K J H d v->RelV v u->Ek s.heap n d u
 | 0,_,v,u,⟨i,e⟩,r,q=>by
  subst e
  obtain rfl:v=.int i:=r
  obtain⟨t,rfl⟩:=q
  exact⟨i,t,rfl,rfl⟩
 | n+1,_,v,u,⟨l,e,hl⟩,r,q=>by
  subst e
  obtain⟨a,xs,rfl,t,rl⟩:=r
  cases q
  obtain⟨_,its,rv,o,ho,hc,k,hd⟩:=(show ObjOk X.prog X.w H s.heap a (.tup xs)from I.hok _ _ t.1)
  refine⟨l,a,o,_,k,rfl,rfl,ho,hc,hd,?_⟩
  have go:∀(l:List D) (xs:List V) (its:List Value),(∀x∈l,lv n x)->RepL K J H l xs->Vals xs its->A2 (Ek s.heap n) l its:=by
   intro l
   induction l with
   | nil=>intro xs its _ rl rv;obtain rfl:xs=[]:=rl;cases rv;exact .nil
   | cons d l ih=>
    intro xs its hl rl rv
    obtain⟨x,r,rfl,h,rl⟩:=rl
    cases rv with
    | cons q rv=>exact .cons (zQ0 I n (hl d (.head _)) h q) (ih _ _ (fun y hy=>hl y (.tail _ hy)) rl rv)
  simpa using go l xs its hl rl rv
theorem zG5 (I:Inv X pins σ H s) {n:Nat}:∀{l:List D}{xs:List V}{us:List Value},(∀x∈l,lv n x)->RepL K J H l xs->Vals xs us->A2 (Ek s.heap n) l us
 | [],xs,us,_,rl,rv=>by obtain rfl:xs=[]:=rl;cases rv;exact .nil
 | d::l,_,_,hl,⟨x,r,e,h,rl⟩,rv=>by
  subst e
  cases rv with
  | cons q rv=>exact .cons (zQ0 I n (hl d (.head _)) h q) (zG5 I (fun y hy=>hl y (.tail _ hy)) rl rv)
theorem zOh {l:List D}{xs:List V}{us:List Value}(rl:RepL K J H l xs) (rv:Vals xs us):∀u∈us,∃d x,d∈l/\Rep K J H d x/\RelV x u:=by
 induction l generalizing xs us with
 | nil=>obtain rfl:xs=[]:=rl;cases rv;intro u hu;cases hu
 | cons d l ih=>
  obtain⟨x,r,rfl,h,rl⟩:=rl
  cases rv with
  | cons q rv=>
   intro u hu
   rcases xm.mp hu with rfl|hu
   ·exact⟨d,x,.head _,h,q⟩
   ·obtain⟨d',x',m,r1,r2⟩:=ih rl rv u hu
    exact⟨d',x',.tail _ m,r1,r2⟩
theorem back {n:Nat}{h h':Heap}{l:List D}{xs:List V}{us:List Value}(hk:A2 (Ek h n) l us) (kp:∀b o,h.get? b=some o->h'.get? b=some o) (rl:RepL K J H l xs) (rv:Vals xs us)
  (hl:∀x∈l,lv n x) (ek:∀d x u,d∈l->Rep K J H d x->RelV x u->Ek h n d u):∀{m:List D}{vs:List Value},A2 (Ek h' n) m vs->(∀u∈vs,u∈us)->∃ys,RepL K J H m ys/\Vals ys vs
 | [],_,.nil,_=>⟨[],rfl,.nil⟩
 | d::m,_,.cons (b:=u) q r,hm=>by
  obtain⟨ys,r1,r2⟩:=back hk kp rl rv hl ek r fun u hu=>hm u (.tail _ hu)
  obtain⟨d',x,mem,rx,rq⟩:=zOh rl rv u (hm u (.head _))
  have e:=((ek d' x u mem rx rq).kept fun b o e _=>kp b o e).inj q
  subst e
  exact⟨x::ys,⟨x,ys,rfl,rx,r1⟩,.cons rq r2⟩
theorem zIj (hu:X.A.units+64<cLine) (hK:X.K=K:=by rfl):zBs X (.builtin "sorted") (cOfF K DS.zMn):=by
 subst hK
 intro pins s σ H xs us Q I r ⟨J,S,ds,d,ha,rl,e,k⟩
 unfold DS.zMn at e
 split at e
 ·rename_i d0
  obtain⟨x,rfl,rx⟩:=zCq (ds:=[]) rl
  cases e1:DS.items S d0 with
  | none=>rw[e1]at e;cases e
  | some l=>
   rw[e1]at e
   dsimp only at e
   split at e
   ·rename_i hs
    cases e
    obtain⟨hz,n,hn,hl⟩:=hs
    obtain⟨a,ys,rfl,hq,q⟩:=zFf ha rx e1
    obtain⟨u,rfl,ru⟩:=vals1 r
    cases ru
    have src:∃(o:Obj) (its:List Value) (c:Nat) (T:String),s.heap.get? a=some o/\o.cls=.type T/\(T="list"\/T="tuple")/\o.data=.seq its.toArray c/\Vals ys its/\its.length<=sizeLine:=by
     rcases hq with hq|hq
     ·obtain⟨its,rv',pl,hz'⟩:=I.list hq
      obtain⟨o,ho,hc,c,hd⟩:=pl.isList
      exact⟨o,its,c,"list",ho,hc,.inl rfl,hd,rv',by rw[<- Vals.length rv'];exact hz'⟩
     ·obtain⟨its,rv',pl,hz'⟩:=I.tuple hq
      obtain⟨o,ho,hc,c,hd⟩:=pl
      exact⟨o,its,c,"tuple",ho,hc,.inr rfl,hd,rv',by rw[<- Vals.length rv'];exact hz'⟩
    obtain⟨o,its,c,T,ho,hc,hT,hd,rv',hz'⟩:=src
    have hk:=zG5 (J:=J) (K:=X.K) I hl q rv'
    refine EK.zFo (n:=n) (m:=s.heap.objs.size) (G:=fun ds vs=>ds=l/\vs=its) (by nofun) (fun R hR=>zX6 ho hc hT hd hz' fun h' sz kp=>hR h' s.toks l its sz kp (hk.imp fun _ _ z=>z.kept fun b o e _=>kp b o e) (by rw[<- hk.length];exact hz) ⟨rfl,rfl⟩) fun ds vs vs' c tk h' L hg hz2 pm a2 hL kp hD=>?_
    obtain⟨rfl,rfl⟩:=hg
    obtain⟨zs,r1,r2⟩:=back hk kp q rv' hl (fun d x u m rx ru=>zQ0 I n (hl d m) rx ru) a2 fun u hu=>pm.mem_iff.mp hu
    have len:zs.length<=sizeLine:=by rw[Vals.length r2,pm.length_eq];exact hz'
    exact⟨.ref L,_,I.laid (t':=tk) kp hL (show ObjOk X.prog X.w _ h' _ (.lst zs)from⟨len,_,c,r2,hD⟩),rfl,k L _ H ha .refl (I.hok.fresh hL) ⟨zs,rfl,r1⟩⟩
   ·cases e
 ·cases e
end
end L2
namespace L2
open PySem PySem.Spec PyProof.Rows EK TU
open TS (sObj zFw adr ordW zEd zCz zK9 Tab.ft)
open DS (D Store Exn Rs SR lv srt dedup)
section
variable {X:Cx}{K:PySem.W.Frag}{E:XE}{J:Js}{S:Store}{H:Hp}{d d1 d2:D}{v:V}{pins:List (Addr × Obj)}{σ:St}{s:Shared}
structure SGood (K:PySem.W.Frag) (J:Js) (H:Hp) (κ:Addr->D) (es:Array (Int × Value)) (l:List D):Prop where
 mem:∀d,d∈es.toList.map (kv κ) <-> d∈l
 rep:∀e∈es.toList,∃x,Rep K J H (kv κ e) x/\RelV x e.2
theorem zX5 {prog:Program}{w:World}{A:Around}{EE:Value->Shared->Prop}{dp:Nat}{κ:Addr->D}{T:Addr}{es:Array (Int × Value)}{R:List Value->Shared->Prop}(hh:A.handled=none) (hS:IsS dp κ s.heap T es (zFw w)) (hz:es.size<=sizeLine)
  (h:∀(h':Heap) (tk:Nat) (vs:List Value),(∀b o,s.heap.get? b=some o->h'.get? b=some o)->vs.Perm (es.toList.map (·.2))->A2 (Ek h' (dp+1)) (vs.map fun v=>κ (adr v)) vs->R vs { s with heap:=h',toks:=tk }):wpAny (model prog w) A (collect (.ref T)) R EE s:=by
 obtain⟨ep,t,ho,Tb,he,_,nd⟩:=hS
 refine PySem.W.kdu_collect (zK9 Tb) hh ho hz fun h' tk acc kp it=>?_
 have ea:acc.toList=((ordW w T ep es).map (·.2)).toList:=by
  refine List.ext_getElem? fun i=>?_
  rcases vC i acc.size with z|z
  ·have e1:=it.2 i acc[i] (vx z)
   rw[uZ,vx z,uZ,e1]
  ·rw[vT (by simpa using z),vT (by simp[zCz];rw[<- it.1];exact z)]
 have pm:acc.toList.Perm (es.toList.map (·.2)):=by rw[ea,Array.toList_map];exact(zEd w T ep es).map _
 refine h h' tk acc.toList kp pm ?_
 have al:∀v∈acc.toList,∃b,v=.ref b/\EA s.heap dp (κ b) b:=fun v hv=>by
  obtain⟨e,hm,rfl⟩:=xq.mp (pm.mem_iff.mp hv)
  obtain⟨b,e1,q,_⟩:=he e hm
  exact⟨b,e1,q⟩
 generalize acc.toList=vs at al
 clear pm ea
 induction vs with
 | nil=>exact .nil
 | cons v vs ih=>
  obtain⟨b,rfl,q⟩:=al v (.head _)
  exact .cons (Ek.kept q fun b o e _=>kp b o e) (ih fun u hu=>al u (.tail _ hu))
theorem zUq {A:Around}{EE:Value->Shared->Prop}{dp:Nat}{κ:Addr->D}{T:Addr}{es:Array (Int × Value)}{l:List D}{Q:VK}{s1:Shared}(I:Inv X pins σ H s1) (hh:A.handled=none) (hu:A.units+20<cLine) (hS:IsS dp κ s.heap T es (zFw X.w)) (hdp:dp+1<=6)
  (k1:∀b o,s1.heap.get? b=some o->s.heap.get? b=some o) (e1:s={ s1 with heap:=s.heap,toks:=s.toks }) (hT:s1.heap.objs.size<=T) (hz:es.size<=63) (g:SGood K J H κ es l) (hl:∀x∈l,lv (dp+1) x)
  (h:∀(L:Addr) (zs:List V),H L=none->RepL K J H (srt (dedup l)) zs->Q (.ref L) (upd H L (.lst zs))):wpAny (model X.prog X.w) A (call (.builtin "sorted") [.ref T]) (EP X pins σ Q) EE s:=by
 have nd:=hS
 obtain⟨_,_,hoT,_,he,_,nd⟩:=nd
 refine EK.zFo (n:=dp+1) (m:=T+1) (G:=fun ds vs=>vs.Perm (es.toList.map (·.2))/\ds=vs.map fun v=>κ (adr v)) (by nofun) (fun R hR=>zX5 (A:=A.in1) hh hS (by rw[vO];lia) fun h' tk vs kp pm a2=>hR h' tk _ vs (xo (kp T _ hoT)) kp a2 (by rw[pm.length_eq];simpa using hz) ⟨pm,rfl⟩) fun ds vs vs' c tk h' L hg hz2 pm a2 hL kp hD=>?_
 obtain⟨pv,rfl⟩:=hg
 have pd:(vs.map fun v=>κ (adr v)).Perm (dedup l):=by
  have p1:(vs.map fun v=>κ (adr v)).Perm (es.toList.map (kv κ)):=by
   have:=pv.map fun v=>κ (adr v)
   rw[xP]at this
   exact this
  refine p1.trans (DS.zW2 nd DS.zEj fun x=>?_)
  rw[g.mem,DS.mem_dedup]
 have es1:srt (vs.map fun v=>κ (adr v))=srt (dedup l):=by
  have lv1:∀y∈vs.map (fun v=>κ (adr v)),lv (dp+1) y:=fun y hy=>hl y (DS.mem_dedup.mp (pd.mem_iff.mp hy))
  exact DS.zNt (fun y hy=>lv1 y ((DS.zCb _).mem_iff.mp hy)) ((DS.zCb _).trans pd) (DS.zLd lv1)
 rw[es1]at a2
 have src:∀u∈vs',∃d x,Rep K J H d x/\RelV x u/\Ek h' (dp+1) d u:=fun u hm=>by
  obtain⟨e,he',rfl⟩:=xq.mp (pv.mem_iff.mp (pm.mem_iff.mp hm))
  obtain⟨x,rx,rq⟩:=g.rep e he'
  obtain⟨b,eb,q,_⟩:=he e he'
  refine⟨kv κ e,x,rx,rq,?_⟩
  unfold kv
  rw[eb]
  exact q.kept fun b o e _=>kp b o e
 have bk:∀{m:List D}{vs:List Value},A2 (Ek h' (dp+1)) m vs->(∀u∈vs,u∈vs')->∃ys,RepL K J H m ys/\Vals ys vs:=by
  intro m vs a2
  induction a2 with
  | nil=>exact fun _=>⟨[],rfl,.nil⟩
  | @cons d u m vs q _ ih=>
   intro hm
   obtain⟨ys,r1,r2⟩:=ih fun u hu=>hm u (.tail _ hu)
   obtain⟨d',x,rx,rq,q'⟩:=src u (hm u (.head _))
   have e:=q'.inj q
   subst e
   exact⟨x::ys,⟨x,ys,rfl,rx,r1⟩,.cons rq r2⟩
 obtain⟨zs,r1,r2⟩:=bk a2 fun u hu=>hu
 have len:zs.length<=sizeLine:=by rw[Vals.length r2,pm.length_eq,pv.length_eq,vO];simp;lia
 have hL':s1.heap.objs.size<=L:=xk hT (Nat.le_of_succ_le hL)
 have I':Inv X pins σ (upd H L (.lst zs)) { s1 with heap:=h',toks:=tk }:=I.laid (t':=tk) (fun b o e=>kp b o (k1 b o e)) hL' (show ObjOk X.prog X.w _ h' _ (.lst zs)from⟨len,_,c,r2,hD⟩)
 rw[e1]
 exact⟨.ref L,_,I',rfl,h L zs (I.hok.fresh hL') r1⟩
end
end L2
namespace L2
open PySem PySem.Spec PyProof.Rows EK
open DS (D Store Exn Rs SR lv srt dedup)
section
variable {X:Cx}{K:PySem.W.Frag}{E:XE}{J:Js}{S:Store}{H:Hp}{d d1 d2:D}{v:V}{pins:List (Addr × Obj)}{σ:St}{s:Shared}
theorem zJr:zBs X (.type "int") (cOf K DS.intB):=by
 intro pins s σ H xs us Q I r ⟨J,S,ds,d,ha,rl,e,k⟩
 unfold DS.intB at e
 split at e
 ·cases e
  obtain⟨x,rfl,rx⟩:=zCq (ds:=[]) rl
  obtain rfl:=rx
  exact zJs pins s σ H _ us Q I r (.inl ⟨_,rfl,k _ H ha .refl rfl⟩)
 ·cases e
  obtain⟨x,rfl,rx⟩:=zCq (ds:=[]) rl
  obtain rfl:=rx
  exact zJs pins s σ H _ us Q I r (.inr ⟨_,rfl,k _ H ha .refl rfl⟩)
 ·cases e
theorem zMp (xs:List Value) (i:Nat) (hi:i<xs.length):xs[((xs.length:Int)-1+-1*(i:Int)).toNat]?=xs.reverse[i]?:=by
 rw[List.getElem?_reverse hi]
 congr 1
 lia
theorem zMr (xs:List Value) (f:Nat->Option Value) (hf:∀i,i<xs.length->f i=xs[i]?):(List.range xs.length).filterMap f=xs:=by
 have:∀n,n<=xs.length->(List.range n).filterMap f=xs.take n:=by
  intro n
  induction n with
  | zero=>intro _;rfl
  | succ n ih=>
   intro hn
   rw[List.range_succ,List.filterMap_append,ih (by nofun),List.take_add_one]
   rw[xD (by nofun)]
   have e:f n=some (xs[n]'(by nofun)):=by rw[hf n (by nofun),xD (by nofun)]
   simp[e]
 rw[this _ (xi _),yy]
end
end L2
namespace L2
open PySem PySem.Spec PyProof.Rows EK
open DS (D Store Exn Rs SR lv srt dedup)
section
variable {prog:Program}{w:World}{A:Around}{E:Value->Shared->Prop}{s:Shared}
theorem zL4 {sl:Addr}{t:Tok}{n:Nat}{Q:Int × Int × Nat->Shared->Prop}(hs:s.heap.IsSliceOf sl .none .none (.int (-1) t)) (h:Q ((n:Int)-1,-1,n) s):wpAny (model prog w) A (Builtin.Slice.sliceApplied (.ref sl) (pure (n:Int))) Q E s:=by
 obtain⟨os,hos,hcs,hds⟩:=id hs
 unfold Builtin.Slice.sliceApplied Builtin.Slice.sliceFields
 refine xa (xa (xS hos hds (x:=.none) rfl (xa (xS hos hds (x:=.none) rfl (xa (xS hos hds (x:=.int (-1) t) rfl (xh (xa (HT.slicePart_ (.int (-1) t) ?_)))))))))
 refine(show wpAny _ _ (if((-1:Int) == 0)=true then _ else _) _ _ s from ?_)
 rw[xg (by decide)]
 refine xa (HT.slicePart_ .none (xa (HT.slicePart_ .none (xa (xh ?_)))))
 have e:Builtin.Slice.sliceAdjust none none (-1) (n:Int)=((n:Int)-1,-1):=by simp[Builtin.Slice.sliceAdjust]
 have e2:Builtin.Slice.slicePlaces ((n:Int)-1) (-1) (-1)=n:=by
  unfold Builtin.Slice.slicePlaces
  rw[xg (by decide),show(- -1:Int)=1 by decide,Int.ediv_one]
  split <;> lia
 refine(show wpAny _ _ (match Builtin.Slice.sliceAdjust none none (-1) (n:Int)with|(lo,hi)=>pure (lo,(-1:Int),Builtin.Slice.slicePlaces lo hi (-1))) _ _ s from ?_)
 rw[e]
 dsimp only
 rw[e2]
 exact xh h
theorem zEw {t sl:Addr}{its:List Value}{tk:Tok}{Q:Value->Shared->Prop}(ht:IsTup s.heap t its.toArray) (hs:s.heap.IsSliceOf sl .none .none (.int (-1) tk)) (h:Q (.ref s.heap.objs.size) { s with heap:=s.heap.push { cls:=.type "tuple",data:=.seq its.reverse.toArray } }) (hz:its.length<=sizeLine):
  wpAny (model prog w) A (getItem (.ref t) (.ref sl)) Q E s:=by
 have htake:sizeOk (.seq its.reverse.toArray):=by show its.reverse.toArray.size<=sizeLine;simpa using hz
 obtain⟨os,hos,hcs,hds⟩:=id hs
 have hTs:s.TypeIs (.ref sl) "slice":=⟨os,hos,hcs⟩
 unfold getItem
 try with_reducible refine xK ?_
 first|refine xa (xh ?_)|skip
 refine xa (wpAny_sequenceKey ht.typeIs (by decide) (xa (vR (name:=Str.ofString "__getitem__") ht.typeIs vX (vh vX ht.typeIs entry_tuple_getitem ?_ (args_tuple_getitem _ _)))))
 refine(show wpAny _ _ (Builtin.Tuple.tupleItemsOf (.ref t) >>= _) _ _ s from xa (tupleItemsOf_ ht (xa (vY hTs ?_))))
 rw[xf (by decide)]
 refine xa (zL4 (n:=its.toArray.size) hs ?_)
 refine(show wpAny _ _ (if(((its.toArray.size:Int)-1 == 0 && (-1:Int) == 1) && its.toArray.size == its.toArray.size)=true then _ else _) _ _ s from ?_)
 rw[xg (by simp)]
 have e:((List.range its.toArray.size).filterMap fun(k:Nat)=>its.toArray[(((its.toArray.size:Nat):Int)-1+(k:Int)*(-1)).toNat]?)=its.reverse:=by
  have hl:its.toArray.size=its.reverse.length:=by simp
  rw[hl]
  refine zMr _ _ fun i hi=>?_
  rw[List.getElem?_toArray,<- zMp its i (by simpa using hi)]
  congr 2
  simp
 rw[e]
 first
  | exact xa (m:=Builtin.Tuple.tupleExact _) (vk (xh ⟨_,rfl,xh h⟩) htake)
  | exact xa (m:=Builtin.Tuple.tupleExact _) (vk (xa (xh (xh ⟨_,rfl,xh h⟩))) htake)
  | exact xa (xa (m:=Builtin.Tuple.tupleExact _) (vk (xh (xh ⟨_,rfl,xh h⟩)) htake))
  | exact xa (xa (m:=Builtin.Tuple.tupleExact _) (vk (xh ⟨_,rfl,xh h⟩) htake))
end
end L2
namespace DS
noncomputable section
open Classical
noncomputable def trk (S:Store):D->Option (Bool × List D)
 | .tup l=>some (true,l)
 | .lst l=>some (false,l)
 | .ref n=>match S[n]? with
  | some (.lst l)=>some (false,l)
  | _=>none
 | _=>none
noncomputable def zipW (b1 b2:Bool) (S:Store):List D->Option Walk
 | [a,b]=>match trk S a,trk S b with
  | some (c1,l),some (c2,m)=>if c1=b1/\c2=b2 then some ⟨(l.zip m).map fun p=>.tup [p.1,p.2],gdOf S a++gdOf S b⟩else none
  | _,_=>none
 | _=>none
noncomputable def iZp (b1 b2:Bool) (a:AM):IM:=fun env S=>(a env S).bind fun xs S1=>lift (zipW b1 b2 S1 xs) S1
end
end DS
namespace DS
noncomputable section
open Classical
noncomputable def enW (b:Bool) (S:Store) (d:D):Option Walk:=match trk S d with
 | some (c,l)=>if c=b/\l.length<2 ^ 60 then some ⟨zF9 l 0,gdOf S d⟩else none
 | none=>none
noncomputable def iEn (b:Bool) (a:EM):IM:=fun env S=>(a env S).bind fun x S1=>lift (enW b S1 x) S1
theorem zM4:∀(l:List D) (n i:Nat),(zF9 l n)[i]?=(l[i]?).map fun d=>.tup [.int ((n+i:Nat):Int),d]
 | [],n,i=>by simp[zF9]
 | d::r,n,0=>by simp[zF9]
 | d::r,n,i+1=>by
  rw[zF9,yL,zM4 r (n+1) i,yL,show n+1+i=n+(i+1) by nofun]
theorem zG4:∀(l:List D) (n:Nat),(zF9 l n).length=l.length
 | [],_=>rfl
 | d::r,n=>by rw[zF9,xE,zG4 r,xE]
end
end DS
namespace L2
open PySem PySem.Spec PyProof.Rows
open DS (D Store Exn Rs SR)
section
variable {X:Cx}{K:PySem.W.Frag}{E:XE}{J:Js}{S:Store}{H:Hp}{d d1 d2:D}{v:V}
theorem zFn {l:List D}{c:Bool}(ha:AbS K J S H) (r:Rep K J H d v) (e:DS.trk S d=some (c,l)):∃a,v=.ref a/\∀J' H' S' gd,Grow J H J' H'->AbS K J' S' H'->(∀p∈DS.gdOf S d,p∈gd)->DS.gOk S' gd->∃ys,H' a=some (hoK c ys)/\RepL K J' H' l ys:=by
 cases d with
 | tup l=>cases e;obtain⟨a,xs,rfl,t,rl⟩:=r;exact⟨a,rfl,fun J' H' S' gd g _ _ _=>⟨xs,(t.grow g).1,RepL.grow g _ _ rl⟩⟩
 | lst l=>cases e;obtain⟨a,xs,rfl,t,rl⟩:=r;exact⟨a,rfl,fun J' H' S' gd g _ _ _=>⟨xs,(t.grow g).1,RepL.grow g _ _ rl⟩⟩
 | ref n=>
  obtain⟨a,ea,rfl⟩:=r
  obtain⟨c',ec,o,eo,rc⟩:=ha.at ea
  have e:(match S[n]? with|some (.lst l)=>some (false,l)|_=>none)=some (c,l):=e
  rw[ec]at e
  cases c' with
  | lst l'=>
   cases e
   refine⟨a,rfl,fun J' H' S' gd g ha' sub ok=>?_⟩
   have e':S'[n]?=some (.lst l):=ok (n,.lst l) (sub _ (by simp[DS.gdOf,ec]))
   obtain⟨o',eo',rc'⟩:=ha'.ob n a _ (g.pre n a ea) e'
   obtain⟨ys,rfl,rl'⟩:=rc'
   exact⟨ys,eo',rl'⟩
  | _=>cases e
 | _=>cases e
theorem zZk {a b:Addr}{b1 b2:Bool}{l m:List D}{gd:List (Nat × D)}(h1:∀J' H' S',Grow J H J' H'->AbS K J' S' H'->DS.gOk S' gd->∃ys,H' a=some (hoK b1 ys)/\RepL K J' H' l ys)
  (h2:∀J' H' S',Grow J H J' H'->AbS K J' S' H'->DS.gOk S' gd->∃ys,H' b=some (hoK b2 ys)/\RepL K J' H' m ys):ItOk K J H ⟨(l.zip m).map fun p=>.tup [p.1,p.2],gd⟩ (Itk b1 b2 a b) where
 go:=fun i H' J' S' ha g gd hi=>by
  obtain⟨xs,q1,r1⟩:=h1 J' H' S' g ha gd
  obtain⟨ys,q2,r2⟩:=h2 J' H' S' g ha gd
  have hi':i<l.length/\i<m.length:=by rw[xp,yb]at hi;lia
  exact⟨xs,ys,xs[i]'(by rw[<- r1.length];exact hi'.1),ys[i]'(by rw[<- r2.length];exact hi'.2),q1,q2,xD _,xD _⟩
 yld:=fun i H' J' S' x H'' ha g gd yl d ed=>by
  obtain⟨T,xs',ys',x1,y1,rfl,hT,e1,e2,g1,g2,rfl⟩:=yl
  obtain⟨xs,q1,r1⟩:=h1 J' H' S' g ha gd
  obtain⟨ys,q2,r2⟩:=h2 J' H' S' g ha gd
  have ex:xs=xs':=zKq (xJ (q1.symm.trans e1))
  have ey:ys=ys':=zKq (xJ (q2.symm.trans e2))
  subst ex ey
  obtain⟨dx,f1,p1⟩:=r1.get' g1
  obtain⟨dy,f2,p2⟩:=r2.get' g2
  rw[vm,show(l.zip m)[i]?=some (dx,dy)from yF.mpr ⟨f1,f2⟩]at ed
  cases ed
  refine⟨ha.push hT,.push hT,T,_,rfl,⟨zB1,ha.out hT⟩,x1,[y1],rfl,Rep.grow (.push hT) _ _ p1,y1,[],rfl,Rep.grow (.push hT) _ _ p2,rfl⟩
 stop:=fun i H' J' S' ha g gd hi=>by
  obtain⟨xs,q1,r1⟩:=h1 J' H' S' g ha gd
  obtain⟨ys,q2,r2⟩:=h2 J' H' S' g ha gd
  refine⟨xs,ys,q1,q2,?_⟩
  rw[xp,yb]at hi
  rw[<- r1.length,<- r2.length]
  lia
theorem zUa (b1 b2:Bool) {a b:Expr}{es:List Expr}{k:Nat}{tpos p pos:Pos}{am:DS.AM}(hg:Gl X "zip") (hm:X.mg "zip"=none) (ha:DA X K E [a,b] am) (h1:nst a=true:=by rfl) (h2:nst b=true:=by rfl):DI X K E (.Tuple es k tpos) (.Call (.Name "zip" p) [a,b] [] pos) (DS.iZp b1 b2 am):=
 ⟨(qzk b1 b2 hg hm ha.h (by rw[zBw h1,zBw h2];rfl) (by rw[zBw h2];rfl)).imp fun σ H R ⟨env,S,J,h,hE,q⟩=>⟨env,S,J,h,hE,q.bind.imp fun ds S1 J1 H1 e1 a1 g1 q1 xs rx=>by
  obtain⟨w,ew,k⟩:=q1.lift
  have hl:=ha.len _ _ _ _ e1
  match ds,hl with
  | [d,d'],_=>
   obtain⟨x,y,rfl,r,r'⟩:=zHl rx
   unfold DS.zipW at ew
   simp only at ew
   cases t1:DS.trk S1 d with
   | none=>rw[t1]at ew;cases ew
   | some p1=>
    cases t2:DS.trk S1 d' with
    | none=>rw[t1,t2]at ew;cases ew
    | some p2=>
     obtain⟨c1,l⟩:=p1
     obtain⟨c2,m⟩:=p2
     rw[t1,t2]at ew
     simp only at ew
     split at ew
     ·rename_i hc
      obtain⟨rfl,rfl⟩:=hc
      cases ew
      obtain⟨a',rfl,s1⟩:=zFn a1 r t1
      obtain⟨b',rfl,s2⟩:=zFn a1 r' t2
      have z1:=fun J' H' S' g ab ok=>s1 J' H' S' (DS.gdOf S1 d++DS.gdOf S1 d') g ab (fun p hp=>vN _ hp) ok
      have z2:=fun J' H' S' g ab ok=>s2 J' H' S' (DS.gdOf S1 d++DS.gdOf S1 d') g ab (fun p hp=>vc _ hp) ok
      have ok0:DS.gOk S1 (DS.gdOf S1 d++DS.gdOf S1 d'):=fun p hp=>by
       have key:∀e,∀p∈DS.gdOf S1 e,S1[p.1]?=some p.2:=fun e p hp=>by
        cases e with
        | ref n=>
         have hp:p∈(match S1[n]? with|some d=>[(n,d)]|none=>[]):=hp
         cases en:S1[n]? with
         | none=>rw[en]at hp;cases hp
         | some c=>rw[en]at hp;rw[xF.mp hp];exact en
        | _=>cases hp
       rcases xG.mp hp with hp|hp
       ·exact key _ p hp
       ·exact key _ p hp
      obtain⟨xs,f1,_⟩:=z1 J1 H1 S1 .refl a1 ok0
      obtain⟨ys,f2,_⟩:=z2 J1 H1 S1 .refl a1 ok0
      exact⟨a',b',rfl,⟨xs,f1⟩,⟨ys,f2⟩,k J1 H1 a1 .refl _ (zZk z1 z2)⟩
     ·cases ew⟩⟩
end
end L2
namespace TS
open PySem
theorem zWy {prog:Program}{w:World}{A:Around}(hh:A.handled=none) (b:Bool) (it l:Addr) (hne:l≠it) (items:Array Value):Draws prog w A it [it,l] items.size (fun i v=>items[i]?=some v) (fun i h=>KIt b h it l i/\KSq b h l items) where
 live:=fun _ _ st=>let ⟨o,ho,_⟩:=st.1;⟨o,ho⟩
 frame:=fun _ _ _ st hk=>⟨st.1.at fun o e=>hk it (by simp) o e,st.2.at fun o e=>hk l (by simp) o e⟩
 item:=fun i s Q E hi st hQ=>next_item st.1 st.2 (x:=items[i]) (by simp[hi]) fun h' hit' hs'=>hQ _ h' s.toks (by simp[hi]) ⟨hit',st.2.xb hs'.extBut hne⟩ hs'
 done:=fun s Q E st hE=>next_end hh st.1 st.2 (by simp) hE
noncomputable abbrev enO (it:Addr):Obj:={ cls:=.type "enumerate",data:=.fields #[.none,.bool false,.ref it,rawInt 0,.none,.none] }
theorem zZv (b:Bool) (l:Addr) (xs:Array Value):Meets (Builtin.«enumerate.__new__» ⟨[.type "enumerate",.ref l],[]⟩) (fun _ R s=>KSq b s.heap l xs/\R (.ok (.ret (.ref (s.heap.push (itO b l)).objs.size))) { s with heap:=(s.heap.push (itO b l)).push (enO s.heap.objs.size) }):=
 .of_wp fun prog w A R s h=>by
  obtain⟨hp,g,d,tk,os⟩:=s;obtain⟨q1,h⟩:=h
  have hsub:=sub_enumerate
  have L1:KSq b (Shared.heap ⟨hp,g,d,tk,os⟩) l xs:=q1
  wp_walk using zH7 L1
  refine wpAny_stack_any fun st=>xh ?_
  split
  ·rename_i c _ _ _ _ _
   cases(c == Value.type "enumerate")
   ·wp_walk using zH7 L1
    exact⟨_,rfl,h⟩
   ·wp_walk using zH7 L1
    exact⟨_,rfl,h⟩
  ·wp_walk using zH7 L1
   exact⟨_,rfl,h⟩
section
variable {prog:Program}{w:World}{A:Around}{E:Value->Shared->Prop}{s:Shared}
theorem zWu {b:Bool}{l:Addr}{xs:Array Value}{Q:Value->Shared->Prop}(q1:KSq b s.heap l xs)
  (h:∀h',IsEnum h' (s.heap.objs.size+1) s.heap.objs.size 0 .none->KIt b h' s.heap.objs.size l 0->(∀c o,s.heap.get? c=some o->h'.get? c=some o)->Q (.ref (s.heap.objs.size+1)) { s with heap:=h' }):
  wpAny (model prog w) A (call (.type "enumerate") [.ref l]) Q E s:=by
 refine callType_new F.called_enumerate (by decide) (F.typeCall_enumerate_1 _) (F.newCall_enumerate_1 _) (fun obj=>F.args_object_init_2 obj _) F.entry_enumerate_new (zZv b l xs) ⟨q1,?_⟩
 have z0:(s.heap.push (itO b l)).objs.size=s.heap.objs.size+1:=vw ..
 have g2:((s.heap.push (itO b l)).push (enO s.heap.objs.size)).get? (s.heap.push (itO b l)).objs.size=some (enO s.heap.objs.size):=xA _ rfl
 have g1:((s.heap.push (itO b l)).push (enO s.heap.objs.size)).get? s.heap.objs.size=some (itO b l):=xn _ (xA _ (by cases b <;> rfl))
 have gk:∀c o,s.heap.get? c=some o->((s.heap.push (itO b l)).push (enO s.heap.objs.size)).get? c=some o:=fun c o x=>xn _ (xn _ x)
 show _/\_
 rw[z0]at g2 ⊢
 exact⟨⟨_,g2,rfl⟩,h _ g2 ⟨_,g1,rfl,rfl⟩ gk⟩
end
end TS
namespace L2
open PySem PySem.Spec PyProof.Rows TS
open DS (D Store Exn Rs SR)
noncomputable def Ite (b:Bool) (a:Addr):It:=
  ⟨fun i H=>∃xs x,H a=some (hoK b xs)/\xs[i]?=some x,
   fun i H v H'=>∃T xs x,v=.ref T/\H T=none/\H a=some (hoK b xs)/\xs[i]?=some x/\H'=upd H T (.tup [.int i,x]),
   fun i H=>∃xs,H a=some (hoK b xs)/\xs.length<=i⟩
theorem zUj {P:Program}{w:World}{K:PySem.W.Frag}{es:List Expr}{k:Nat}{pos:Pos}(b:Bool) (a e it:Addr) (hei:e≠it):
  Turn P w K (.Tuple es k pos) (Ite b a) [e,it] e (fun i h=>(∃old,IsEnum h e it i old)/\KIt b h it a i) where
 mem:=by simp
 obj:=fun i h st c hc=>by
  obtain⟨⟨old,he⟩,o1,e1,c1,d1⟩:=st
  simp only[xm,vd,ve]at hc
  rcases hc with rfl|rfl
  ·exact⟨_,he,fun v z=>by cases z⟩
  ·exact⟨_,e1,fun v z=>by rw[d1]at z;cases z⟩
 keep:=fun i h h' st kk=>by
  obtain⟨⟨old,he⟩,h1⟩:=st
  exact⟨⟨old,kk e (by simp) _ he⟩,h1.at fun o x=>kk it (by simp) o x⟩
 item:=by
  intro X hP hw hK hc i pins s σ H E I hf st hg
  subst hP hw hK
  obtain⟨xs,x,ha,hx⟩:=hg
  obtain⟨⟨old,he⟩,h1⟩:=st
  obtain⟨its,rv,p1,z1⟩:=I.kSq ha
  obtain⟨u,hu,ru⟩:=rv.get hx
  have na:a ∉ [e,it]:=fun m=>by rw[(hf a m).1]at ha;cases ha
  have nae:a≠e:=fun z=>na (by simp[z])
  have nai:a≠it:=fun z=>na (by simp[z])
  have hfr:H s.heap.objs.size=none:=I.hok.fresh (xi _)
  have elt:e<s.heap.objs.size:=xo he
  have ilt:it<s.heap.objs.size:=by obtain⟨o,ho,_⟩:=h1;exact xo ho
  have hi:i<its.toArray.size:=by obtain⟨z,_⟩:=xH.mp hu;simpa using z
  refine wpAny_pyNext_enum_itemD (zWy (A:=X.A.in1) (I.ok.hd hc) b it a nai its.toArray) he ⟨h1,p1⟩ hi hei (fun m=>by rcases xm.mp m with z|z;exact hei z;exact nae (xF.mp z).symm) fun v h' tk pv ho st' hT hsz hk=>?_
  have ev:v=u:=by
   have:its.toArray[i]?=some u:=by simpa using hu
   rw[this]at pv;exact(xJ pv).symm
  subst ev
  refine⟨_,rfl,wpAny_letOwnedTupleGo_enum (s:={ s with heap:=h',toks:=tk+1 }) ho fun h2' he' hs'=>?_⟩
  have hT2:h2'.get? s.heap.objs.size=some { cls:=.type "tuple",data:=.seq #[.int i tk,v] }:=hs'.extBut _ _ (uf elt) hT
  refine⟨.ref s.heap.objs.size,upd H s.heap.objs.size (.tup [.int i,x]),I.turnedT (t':=tk+1) hf (fun c o hc e=>?_) (xi _) ⟨by show 2<=sizeLine;decide,[.int i tk,v],.cons ⟨tk,rfl⟩ (.cons ru .nil),⟨_,hT2,rfl,_,rfl⟩⟩,rfl,⟨_,xs,x,rfl,hfr,ha,hx,rfl⟩,⟨⟨_,by simpa using he'⟩,st'.1.xb hs'.extBut (xw hei)⟩,fun c hc=>?_⟩
  ·simp only[xm,vd,ve,not_or]at hc
   exact hs'.extBut _ _ hc.1 (hk _ _ hc.1 hc.2 e)
  ·have hn:=(hf c hc).1
   have ne:c≠s.heap.objs.size:=by
    simp only[xm,vd,ve]at hc
    rcases hc with rfl|rfl
    ·exact xr elt
    ·exact xr ilt
   rw[zAq ne];exact hn
 done:=by
  intro X hP hw hK hc i pins s σ H E I hf st hg
  subst hP hw hK
  obtain⟨xs,ha,hx⟩:=hg
  obtain⟨⟨old,he⟩,h1⟩:=st
  obtain⟨its,rv,p1,z1⟩:=I.kSq ha
  have na:a ∉ [e,it]:=fun m=>by rw[(hf a m).1]at ha;cases ha
  have nai:a≠it:=fun z=>na (by simp[z])
  have l1:=rv.length
  unfold pyNext
  have hT:s.TypeIs (.ref e) "enumerate":=⟨_,he,rfl⟩
  refine xa (u6 (vR (name:=Str.ofString "__next__") hT F.slot_enumerate_next (vh F.slot_enumerate_next hT F.entry_enumerate_next ?_ (F.args_enumerate_next_1 _))))
  refine(show wpAny _ _ (field (.ref e) 2 >>= _) _ _ _ from xa (xS he rfl (x:=.ref it) rfl (xa (next_end (I.ok.hd hc) h1 p1 (by simp;lia) fun h' x he' hx'=>?_))))
  obtain⟨o,ho,hcl⟩:=hx'
  refine xa (uj (T:="StopIteration") (b:=true) ⟨o,ho,hcl⟩ isSubtype_stop ?_)
  exact xh ⟨rfl,I.turnedL (t':=s.toks) hf fun c o hc e=>he' _ _ (fun z=>hc (by simp[z])) e⟩
 self:=fun _ _ _ _ _ st h=>wpAny_pyIter_enum st.1.choose_spec h
section
variable {X:Cx}{K:PySem.W.Frag}{E:XE}{J:Js}{S:Store}{H:Hp}
theorem yBc {a:Addr}{b:Bool}{l:List D}{gd:List (Nat × D)}(h1:∀J' H' S',Grow J H J' H'->AbS K J' S' H'->DS.gOk S' gd->∃ys,H' a=some (hoK b ys)/\RepL K J' H' l ys):ItOk K J H ⟨DS.zF9 l 0,gd⟩ (Ite b a) where
 go:=fun i H' J' S' ha g gd hi=>by
  obtain⟨xs,q1,r1⟩:=h1 J' H' S' g ha gd
  have hi':i<l.length:=by rw[DS.zG4]at hi;exact hi
  exact⟨xs,xs[i]'(by rw[<- r1.length];exact hi'),q1,xD _⟩
 yld:=fun i H' J' S' x H'' ha g gd yl d ed=>by
  obtain⟨T,xs',x1,rfl,hT,e1,g1,rfl⟩:=yl
  obtain⟨xs,q1,r1⟩:=h1 J' H' S' g ha gd
  have ex:xs=xs':=zKq (xJ (q1.symm.trans e1))
  subst ex
  obtain⟨dx,f1,p1⟩:=r1.get' g1
  rw[DS.zM4,f1,vK]at ed
  cases ed
  exact⟨ha.push hT,.push hT,T,_,rfl,⟨zB1,ha.out hT⟩,_,_,rfl,rfl,x1,[],rfl,Rep.grow (.push hT) _ _ p1,rfl⟩
 stop:=fun i H' J' S' ha g gd hi=>by
  obtain⟨xs,q1,r1⟩:=h1 J' H' S' g ha gd
  rw[DS.zG4]at hi
  exact⟨xs,q1,by rw[<- r1.length];exact hi⟩
theorem zX1 (b:Bool) {a:Expr}{es:List Expr}{k:Nat}{tpos p pos:Pos}{m:DS.EM}(hg:Gl X "enumerate") (hm:X.mg "enumerate"=none) (he:DE X K E a m) (h1:nst a=true:=by rfl) (hK:X.K=K:=by rfl):DI X K E (.Tuple es k tpos) (.Call (.Name "enumerate" p) [a] [] pos) (DS.iEn b m):=by
 subst hK
 refine⟨⟨fun pins s σ H R I hq1=>?_⟩⟩
 obtain⟨env,S,J,ha,hE,q⟩:=hq1
 have hs:starEach [a] X.env=[(false,eval a X.env)]:=zBw h1
 refine Call_ (zE3 I hg hm PyProof.Rows.boot_enumerate (uD ?_ hs rfl))
 rw[hs]
 refine(show wpAny _ _ (spliced ((false,eval a X.env)::backTo pos [])) _ _ s from uV (thn (he.h.h pins s σ H (fun x H1=>∃J1 S1 d w,AbS X.K J1 S1 H1/\Rep X.K J1 H1 d x/\DS.enW b S1 d=some w/\∀It,ItOk X.K J1 H1 w It->R It H1) I ⟨env,S,J,ha,hE,q.bind.imp fun d S1 J1 H1 _ a1 g1 q1 x rx=>?_⟩) fun v s1 hq1=>?_))
 ·obtain⟨w,ew,k⟩:=q1.lift
  exact⟨J1,S1,d,w,a1,rx,ew,k J1 H1 a1 .refl⟩
 ·obtain⟨x,H1,I1,r1,J1,S1,d,w,a1,rx,ew,k⟩:=hq1
  refine uU ?_
  unfold DS.enW at ew
  cases t1:DS.trk S1 d with
  | none=>rw[t1]at ew;cases ew
  | some p1=>
   obtain⟨c1,l⟩:=p1
   rw[t1]at ew
   simp only at ew
   split at ew
   ·rename_i hc
    obtain⟨rfl,_⟩:=hc
    cases ew
    obtain⟨a',rfl,s1'⟩:=zFn a1 rx t1
    have z1:=fun J' H' S' g ab ok=>s1' J' H' S' (DS.gdOf S1 d) g ab (fun p hp=>hp) ok
    have ok0:DS.gOk S1 (DS.gdOf S1 d):=fun p hp=>by
     cases d with
     | ref n=>
      have hp:p∈(match S1[n]? with|some d=>[(n,d)]|none=>[]):=hp
      cases en:S1[n]? with
      | none=>rw[en]at hp;cases hp
      | some c=>rw[en]at hp;rw[xF.mp hp];exact en
     | _=>cases hp
    obtain⟨xs,f1,_⟩:=z1 J1 H1 S1 .refl a1 ok0
    cases r1
    obtain⟨its,rv,p1,_⟩:=I1.kSq f1
    refine zWu p1 fun h' c1' c2 hk=>wpAny_pyIter_enum c1' ?_
    have hne:s1.heap.objs.size+1≠s1.heap.objs.size:=Nat.succ_ne_self _
    refine⟨_,[s1.heap.objs.size+1,s1.heap.objs.size],_,_,H1,rfl,I1.kept (t':=s1.toks) hk,zUj c1 a' _ _ hne,⟨⟨_,by simpa using c1'⟩,c2⟩,fun c hc=>?_,k _ (yBc z1)⟩
    have hle:s1.heap.objs.size<=c:=by
     simp only[xm,vd,ve]at hc
     rcases hc with rfl|rfl
     ·exact ub _ _
     ·exact xi _
    exact I1.fpOk hle (I1.hok.fresh hle)
   ·cases ew
end
end L2
namespace DS
noncomputable def eqI (_:Store) (x y:D):Option D:=match x,y with
 | .int a,.int b=>some (.bl (decide (a=b)))
 | _,_=>none
noncomputable def ltI (_:Store) (x y:D):Option D:=match x,y with
 | .int a,.int b=>some (.bl (decide (a<b)))
 | _,_=>none
noncomputable def putN (S:Store) (o k v:D):Option Store:=match o with
 | .ref n=>match S[n]? with
  | some (.dct false ks vs)=>if zCr false k=true/\ks.length<most then some (S.set n (.dct false (put2 ks vs k v).1 (put2 ks vs k v).2))else none
  | _=>none
 | _=>none
theorem zWt {S:Store}{a b:Int}:eqI S (.int a) (.int b)=some (.bl (decide (a=b))):=rfl
end DS
namespace L2
open PySem PySem.Spec PyProof.Rows
open DS (D Store Exn Rs SR)
section
variable {X:Cx}{K:PySem.W.Frag}
theorem zZy {pins:List (Addr × Obj)}{σ:St}{H:Hp}{s:Shared}{a:Addr}{kvs:List (Key × V)}{k:Key}{v:V}{u r:Value}{A:Around}{E:Value->Shared->Prop}{Q:Unit->Shared->Prop}(I:Inv X pins σ H s) (e:H a=some (.dK kvs)) (l:kvs.length<sizeLine) (ry:RelV (kV k) u) (rv:RelV v r) (h:∀s',Inv X pins σ (upd H a (.dK (putK kvs k v))) s'->Q () s'):
  wpAny (model X.prog X.w) A (setItem (.ref a) u r) Q E s:=by
 obtain⟨z,hd,vs,rel,dd⟩:=zZw I.hok e
 refine wpAny_setItem_pairs (hsz:=by rw[<- rel.length];exact z) (zN4 ry) dd fun h' dd' hs=>h _ ?_
 exact zQc I (by rw[e];exact True.intro) hs (let ⟨q,_,_,hq,_⟩:=dd';⟨q,hq⟩) (zU9 (xk (zE9 kvs k v) l) hd (rel.put k rv) dd')
theorem zUw:PSet X (pOf K DS.putN):=by
 intro pins s σ H o i v ov iv u Q I ro ri rv ⟨J,S,d1,d2,d3,S',ha,r1,r2,r3,e,k⟩
 unfold DS.putN at e
 split at e
 ·rename_i n
  obtain⟨a,ea,rfl⟩:=r1
  obtain⟨c,ec,ob,eo,rc⟩:=ha.at ea
  split at e
  ·rename_i ks vs es
   rw[ec]at es;cases es
   obtain⟨xs,q,rl⟩:=rc
   split at e
   ·rename_i hk
    cases e
    cases ro
    have hk1:=hk.1
    unfold DS.zCr at hk1
    rw[xM]at hk1
    rcases q with⟨_,kvs,rfl,rfl,rfl⟩|⟨z,_⟩
    ·obtain⟨kk,rfl⟩:=zLg hk1.1 fun l z=>by subst z;cases hk1.2
     obtain rfl:=zI5 r2
     obtain⟨p1,p2⟩:=zTu (fun a b=>zI6) (k:=kk) rl r3
     exact zZy I eo (by have:=hk.2;rw[xp]at this;exact this) ri rv fun s' I'=>⟨_,I',k _ (ha.write ea ⟨_,.inl ⟨rfl,_,rfl,p1,rfl⟩,p2⟩) (.write ea)⟩
    ·cases z
   ·cases e
  ·cases e
 ·cases e
end
end L2
namespace DS
noncomputable def addE (S:Store) (x y:D):Option D:=match x,y with
 | .tup [],.tup m=>some (.tup m)
 | x,y=>addD S x y
theorem zMi {S:Store}{l m:List D}(h:l.length+m.length<=most):addE S (.tup l) (.tup m)=some (.tup (l++m)):=by
 cases l with
 | nil=>rfl
 | cons a r=>show(if a::r≠[]/\(a::r).length+m.length<=most then some (D.tup (a::r++m))else none)=_;rw[xf ⟨by simp,h⟩]
end DS
namespace DS
noncomputable section
open Classical
noncomputable def intsOf:List D->Option (List Int)
 | []=>some []
 | .int a::l=>(intsOf l).map (a::·)
 | _=>none
theorem zG0:∀{l:List D}{xs:List Int},intsOf l=some xs->l=xs.map D.int
 | [],xs,h=>by cases h;rfl
 | .int a::l,xs,h=>by
  obtain⟨r,e,rfl⟩:=yD.mp h
  rw[xt,zG0 e]
theorem zDv:∀(xs:List Int),intsOf (xs.map D.int)=some xs
 | []=>rfl
 | a::r=>by rw[xt,intsOf,zDv r];rfl
noncomputable def bst (p:Int->Int->Prop):Int->List Int->Int
 | a,[]=>a
 | a,b::r=>bst p (if p b a then b else a) r
theorem zQw {p:Int->Int->Prop}(tr:∀a b c,¬ p b a->¬ p c b->¬ p c a) (as:∀a b,p a b->¬ p b a):∀(r:List Int) (a:Int),bst p a r∈a::r/\∀x∈a::r,¬ p x (bst p a r)
 | [],a=>⟨.head _,fun x hx=>by rw[xF.mp hx];exact fun z=>as _ _ z z⟩
 | b::r,a=>by
  obtain⟨h1,h2⟩:=zQw tr as r (if p b a then b else a)
  unfold bst
  refine⟨?_,fun x hx=>?_⟩
  ·rcases xm.mp h1 with z|z
   ·rw[z];split
    ·exact .tail _ (.head _)
    ·exact .head _
   ·exact .tail _ (.tail _ z)
  ·rcases xm.mp hx with rfl|hx
   ·by_cases c:p b x
    ·rw[xf c]at h2 ⊢
     exact tr _ _ _ (h2 b (.head _)) (as _ _ c)
    ·rw[xg c]at h2 ⊢
     exact h2 x (.head _)
   ·rcases xm.mp hx with rfl|hx
    ·by_cases c:p x a
     ·rw[xf c]at h2 ⊢
      exact h2 x (.head _)
     ·rw[xg c]at h2 ⊢
      exact tr _ _ _ (h2 a (.head _)) c
    ·exact h2 x (.tail _ hx)
noncomputable def bstL (p:Int->Int->Prop) (S:Store):List D->Option D
 | [d]=>match(match look S d with|some (.lst l)=>intsOf l|_=>none)with
  | some (a::r)=>some (.int (bst p a r))
  | _=>none
 | _=>none
noncomputable def minI:Store->List D->Option D:=bstL fun a b=>a<b
theorem zQx {p:Int->Int->Prop}(tr:∀a b c,¬ p b a->¬ p c b->¬ p c a) (as:∀a b,p a b->¬ p b a) {S:Store}{xs:List Int}(hn:xs≠[]):∃v∈xs,bstL p S [.lst (xs.map D.int)]=some (.int v)/\∀x∈xs,¬ p x v:=by
 cases xs with
 | nil=>exact absurd rfl hn
 | cons a r=>
  obtain⟨h1,h2⟩:=zQw tr as r a
  refine⟨_,h1,?_,h2⟩
  show(match intsOf ((a::r).map D.int)with|some (a::r)=>some (D.int (bst p a r))|_=>none)=_
  rw[zDv]
theorem zP9 {S:Store}{xs:List Int}(hn:xs≠[]):∃v∈xs,minI S [.lst (xs.map D.int)]=some (.int v)/\∀x∈xs,v<=x:=by
 obtain⟨v,h1,h2,h3⟩:=zQx (p:=fun a b=>a<b) (fun a b c h h'=>by nofun) (fun a b h=>by nofun) (S:=S) hn
 exact⟨v,h1,h2,fun x hx=>Int.not_lt.mp (h3 x hx)⟩
noncomputable def lstI (S:Store) (d:D):Option (List Int):=match look S d with|some (.lst l)=>intsOf l|_=>none
theorem zSk {S:Store}{xs:List Int}:lstI S (.lst (xs.map D.int))=some xs:=zDv xs
noncomputable def revT (_:Store) (x:D):Option D:=match x with
 | .tup l=>some (.tup l.reverse)
 | _=>none
noncomputable def isq (d:D) (T:String):Option Bool:=match d with
 | .tup _=>if T="tuple" then some true else none
 | .ktup _=>if T="tuple" then some true else none
 | .int _=>if T="int" then some true else if T="bool" then some false else none
 | .bl _=>if T="bool" then some true else none
 | _=>none
noncomputable def isiQ (_:Store):List D->Option D
 | [d,.ty T]=>(isq d T).map D.bl
 | _=>none
theorem zZn {b:Bool}:isq (.bl b) "bool"=some true:=by unfold isq;exact xf rfl
theorem zWi {S:Store}{d:D}{T:String}{b:Bool}(h:isq d T=some b):isiQ S [d,.ty T]=some (.bl b):=by
 show(isq d T).map D.bl=_
 rw[h];rfl
end
end DS
namespace DS
noncomputable section
open Classical
noncomputable def pairsOf:List D->Option (List (D × D))
 | []=>some []
 | .tup [k,v]::l=>if zCr true k=true then(pairsOf l).map ((k,v)::·)else none
 | _=>none
noncomputable def putAll (a:List D × List D) (ps:List (D × D)):List D × List D:=ps.foldl (fun a p=>put2 a.1 a.2 p.1 p.2) a
noncomputable def zQ5 (S:Store):List D->Option D
 | [d]=>match(match look S d with|some (.lst l)=>pairsOf l|_=>none)with
  | some ps=>if ps.length<=most then some (.dct true (putAll ([],[]) ps).1 (putAll ([],[]) ps).2)else none
  | none=>none
 | _=>none
noncomputable def sumI (S:Store):List D->Option D
 | [d]=>match lstI S d with
  | some xs=>if xs.length<=1000/\∀x∈xs,x.natAbs<=2 ^ 50 then some (.int xs.sum)else none
  | none=>none
 | _=>none
end
end DS
namespace DS
noncomputable section
open Classical
noncomputable def mulT (S:Store) (x y:D):Option D:=match x,y with
 | .tup l,.int n=>if l≠[]/\1<=n/\l.length*n.toNat<=most/\n<=1000000 then some (.tup (List.replicate n.toNat l).flatten)else none
 | x,y=>mulD S x y
end
theorem zSg {S:Store}{a b:Int}:mulT S (.int a) (.int b)=mulD S (.int a) (.int b):=rfl
theorem zLs {S:Store}{l:List D}{n:Int}(h0:l≠[]) (h1:1<=n) (h2:n<=1000) (h3:l.length<=1000):mulT S (.tup l) (.int n)=some (.tup (List.replicate n.toNat l).flatten):=by
 unfold mulT
 simp only
 rw[xf ⟨h0,h1,xk (uc h3 (show n.toNat<=1000 by nofun)) (by decide),by nofun⟩]
end DS
namespace DS
noncomputable section
open Classical
noncomputable def lvs (l:List D):Prop:=∃n,n<=5/\∀d∈l,lv n d
noncomputable def inKO (S:Store) (x y:D):Option Bool:=match look S y with
 | some (.tup l)=>if lvs (x::l)then some (decide (x∈l))else none
 | some (.lst l)=>if lvs (x::l)then some (decide (x∈l))else none
 | some (.dct t ks _)=>if zCr t x=true then some (decide (x∈ks))else none
 | _=>none
noncomputable def inK (S:Store) (x y:D):Option D:=(inKO S x y).map D.bl
noncomputable def zH0 (S:Store) (x y:D):Option D:=(inKO S x y).map fun b=>.bl (!b)
noncomputable def neK (_:Store) (x y:D):Option D:=match x,y with
 | .int a,.int b=>some (.bl (!decide (a=b)))
 | .bl a,.bl b=>some (.bl (!decide (a=b)))
 | .str a,.str b=>some (.bl (!decide (a=b)))
 | .tup l,.tup m=>if lvs (l++m)then some (.bl (!decide (l=m)))else none
 | _,_=>none
noncomputable def ssK (S:Store) (d:D):Option D:=match litems S d with
 | some l=>if setable l then some (.lst (srt (dedup l)))else none
 | none=>none
end
end DS
namespace DP
open DS
noncomputable section
noncomputable def zL2:SM:=
  (sRet (eOp addD (eOp mulD (eOp ixD (eVar 0) (eC (.int 0))) (eOp ixD (eVar 1) (eC (.int 0)))) (eOp mulD (eOp ixD (eVar 0) (eC (.int 1))) (eOp ixD (eVar 1) (eC (.int 1))))))
noncomputable def zG3:Fn:=zBp 2 2 zL2
noncomputable def zGj:SM:=
  (sRet (eCB zQ5 (zA0 (zAh 1 [] (iVal (eVar 0)) (gName 0) tYes (eTup (zA0 (eVar 0) (zA0 (eC (.bl true)) aNil)))) aNil)))
noncomputable def zD9:Fn:=zBp 1 1 zGj
noncomputable def zGk:SM:=
  (sRet (eAnd (eOp eqI (eCB sumI (zA0 (zAh 1 [] (iVal (eVar 0)) (gName 0) tYes (eOp ixD (eVar 0) (eC (.int 0)))) aNil)) (eC (.int 0))) (eOp eqI (eCB sumI (zA0 (zAh 1 [] (iVal (eVar 0)) (gName 0) tYes (eOp ixD (eVar 0) (eC (.int 1)))) aNil)) (eC (.int 0)))))
noncomputable def zCj:Fn:=zBp 1 1 zGk
noncomputable def zGm:SM:=
  (sSeq (sSet 1 (zAh 1 [] (iVal (eSl slD (eVar 0) pNo (pYes (eC (.int 63))))) (gName 0) tYes (eCB max2B (zA0 (eVar 0) (zA0 (eOp subD (eC (.int 0)) (eVar 0)) aNil)))))
  (sSeq (sSet 2 (eC (.int 7919)))
  (sSeq (sFor (iVal (eVar 1)) (gName 3) (sSet 2 (eOp modD (eOp addD (eOp mulD (eVar 2) (eC (.int 48271))) (eOp modD (eVar 3) (eC (.int 2147483629)))) (eC (.int 2147483647)))))
  (sRet (zT1 [(.str (PySem.Str.ofString "seed")),(.str (PySem.Str.ofString "number")),(.str (PySem.Str.ofString "left"))] (zA0 (eVar 2) (zA0 (eC (.int 0)) (zA0 (eNew (eUn revL (zAh 1 [] (iVal (eVar 1)) (gName 0) (tB (eOp geD (eVar 0) (eOp powD (eC (.int 10)) (eC (.int 18))))) (eVar 0)))) aNil))))))))
noncomputable def zCk:Fn:=zIk 1 4 zGm
noncomputable def zGl:SM:=
  (sSeq (zFq (tAnd (tB (eOp eqI (eOp ixD (eVar 0) (eC (.str (PySem.Str.ofString "number")))) (eC (.int 0)))) (tB (eOp gtD (eCB lenB (zA0 (eOp ixD (eVar 0) (eC (.str (PySem.Str.ofString "left")))) aNil)) (eC (.int 0))))) (sPut putN (eVar 0) (eC (.str (PySem.Str.ofString "number"))) (eMt "list" popM (eOp ixD (eVar 0) (eC (.str (PySem.Str.ofString "left")))) aNil)))
  (sSeq (sSet 2 (eOp ixD (eVar 0) (eC (.str (PySem.Str.ofString "number")))))
  (sSeq (sIf (tB (eOp gtD (eVar 2) (eC (.int 0)))) (sSeq (sPut putN (eVar 0) (eC (.str (PySem.Str.ofString "number"))) (eOp zPx (eVar 2) (eVar 1)))
  (sRet (eOp modD (eVar 2) (eVar 1)))) zAv)
  (sSeq (sSet 3 (eOp modD (eOp addD (eOp mulD (eOp ixD (eVar 0) (eC (.str (PySem.Str.ofString "seed")))) (eC (.int 48271))) (eC (.int 7919))) (eC (.int 2147483647))))
  (sSeq (sPut putN (eVar 0) (eC (.str (PySem.Str.ofString "seed"))) (eOp modD (eOp addD (eOp mulD (eVar 3) (eC (.int 40692))) (eC (.int 104729))) (eC (.int 2147483399))))
  (sSeq (sSet 4 (eOp modD (eOp mulD (eOp ixD (eVar 0) (eC (.str (PySem.Str.ofString "seed")))) (eOp ixD (eVar 0) (eC (.str (PySem.Str.ofString "seed"))))) (eC (.int 2147483563))))
  (sRet (eOp modD (eOp addD (eOp mulD (eOp modD (eOp mulD (eVar 3) (eVar 3)) (eC (.int 2147483629))) (eC (.int 2147483563))) (eVar 4)) (eVar 1)))))))))
noncomputable def zA7:Fn:=zBp 2 5 zGl
noncomputable def zF4:SM:=
  (sSeq (sSet 1 (eUn ssK (zAh 1 [] (iVal (eVar 0)) (gName 0) tYes (eCB zB4 (zA0 (eCB zMn (zA0 (eVar 0) aNil)) aNil)))))
  (sSeq (sSet 2 (eNew (eLst aNil)))
  (sSeq (sFor (iVal (eVar 1)) (gName 3) (sIf (tNot (tTru (eCB anyB (zA0 (zAh 1 [3] (iVal (eVar 1)) (gName 0) tYes (eAnd (eOp neK (eVar 0) (eVar 1)) (eCB allB (zA0 (zAh 1 [1] (iVal (eVar 0)) (gName 0) tYes (eOp inK (eVar 0) (eVar 1))) aNil)))) aNil)))) (zE1 (eMt "list" zC1 (eVar 2) (zA0 (eVar 3) aNil))) zAv))
  (sRet (eCB zB4 (zA0 (eVar 2) aNil))))))
noncomputable def zBb:Fn:=zBp 1 4 zF4
noncomputable def zF5:SM:=
  (sSeq (sUnp (gTup [(gName 2),(gName 3),(gName 4)]) (eVar 1))
  (sSeq (sIf (tOr (tB (eOp neK (eCB lenB (zA0 (eVar 3) aNil)) (eCB lenB (zA0 (eVar 4) aNil)))) (tOr (tB (eOp ltI (eCB lenB (zA0 (eVar 3) aNil)) (eC (.int 1)))) (tB (eOp gtD (eCB lenB (zA0 (eVar 3) aNil)) (eC (.int 8)))))) (sRet (eC (.bl false))) zAv)
  (sSeq (sFor (iVal (eVar 3)) (gName 5) (sFor (iVal (eVar 0)) (gName 6) (sIf (tNot (tTru (eCB anyB (zA0 (zAh 1 [6] (iVal (eVar 5)) (gName 0) tYes (eOp inK (eVar 0) (eVar 1))) aNil)))) (sRet (eC (.bl false))) zAv)))
  (sSeq (sIf (tOr (tB (eOp neK (eCB sumI (zA0 (zAh 2 [] (iVal (eVar 4)) (gTup [(gName 0),(gName 1)]) tYes (eVar 0)) aNil)) (eC (.int 0)))) (tB (eOp neK (eCB sumI (zA0 (zAh 2 [] (iVal (eVar 4)) (gTup [(gName 0),(gName 1)]) tYes (eVar 1)) aNil)) (eC (.int 0))))) (sRet (eC (.bl false))) zAv)
  (sSeq (sSet 7 (zAh 3 [] (iZp true true (zA0 (eVar 3) (zA0 (eVar 4) aNil))) (gTup [(gName 0),(gTup [(gName 1),(gName 2)])]) tYes (eCB minI (zA0 (zAh 2 [1,2] (iVal (eVar 0)) (gTup [(gName 0),(gName 1)]) tYes (eOp addD (eOp mulD (eVar 2) (eVar 0)) (eOp mulD (eVar 3) (eVar 1)))) aNil))))
  (sRet (eOp gtD (eCB sumI (zA0 (eVar 7) aNil)) (eC (.int 0)))))))))
noncomputable def zB2:Fn:=zBp 2 8 zF5
noncomputable def zDe:SM:=
  (sRet (eOp addE (eOp addE (eSl slD (eVar 0) pNo (pYes (eVar 1))) (eTup (zA0 (eVar 2) aNil))) (eSl slD (eVar 0) (pYes (eOp addE (eVar 1) (eC (.int 1)))) pNo)))
noncomputable def zAc:Fn:=zBp 3 3 zDe
noncomputable def zF3:SM:=
  (sSeq (sSet 2 (zAg zD9 (zA0 (eVar 1) aNil)))
  (sRet (eCB allB (zA0 (zAh 1 [2] (iVal (eVar 0)) (gName 0) tYes (eCB anyB (zA0 (zAh 1 [1] (iVal (eVar 0)) (gName 0) tYes (eOp inK (eVar 0) (eVar 1))) aNil))) aNil))))
noncomputable def zBu:Fn:=zBp 2 3 zF3
noncomputable def zJz:SM:=
  (sRet (eCB minI (zA0 (zAh 1 [1] (iVal (eVar 0)) (gName 0) tYes (zAg zG3 (zA0 (eVar 1) (zA0 (eVar 0) aNil)))) aNil)))
noncomputable def zDm:Fn:=zBp 2 2 zJz
noncomputable def zE6:SM:=
  (sSeq (sSet 1 (eNew (eLst aNil)))
  (sSeq (sFor (iVal (eVar 0)) (gName 2) (zE1 (eMt "list" zEx (eVar 1) (zA0 (zAh 1 [1] (iVal (eVar 2)) (gName 0) (tB (eOp zH0 (eVar 0) (eVar 1))) (eVar 0)) aNil))))
  (sSeq (sSet 3 (eLst (zA0 (eTup aNil) aNil)))
  (sSeq (sFor (iVal (eVar 1)) (gName 4) (sSet 3 (eOp addE (eVar 3) (zAh 1 [4] (iVal (eVar 3)) (gName 0) tYes (eOp addE (eVar 0) (eTup (zA0 (eVar 1) aNil)))))))
  (sSeq (sSet 5 (zAh 1 [0] (iVal (eVar 3)) (gName 0) (tTru (eCB allB (zA0 (zAh 1 [0] (iVal (eVar 1)) (gName 0) tYes (eCB anyB (zA0 (zAh 1 [0] (iVal (eVar 1)) (gName 0) tYes (eOp inK (eVar 0) (eVar 1))) aNil))) aNil))) (eVar 0)))
  (sRet (zAg zBb (zA0 (eVar 5) aNil))))))))
noncomputable def zC5:Fn:=zBp 1 6 zE6
noncomputable def zEl:SM:=
  (sSeq (sUnp (gTup [(gName 2),(gName 3),(gName 4)]) (eVar 1))
  (sSeq (sPar [5,6] (zA0 (zAg zA7 (zA0 (eVar 0) (zA0 (eC (.int 9)) aNil))) (zA0 (eCB min2B (zA0 (eCB lenB (zA0 (eVar 3) aNil)) (zA0 (eCB lenB (zA0 (eVar 4) aNil)) aNil))) aNil)))
  (sSeq (sSet 7 (zAg zA7 (zA0 (eVar 0) (zA0 (eVar 6) aNil))))
  (sSeq (sSet 8 (eOp ixD (eLst (zA0 (eTup (zA0 (eC (.int 1)) (zA0 (eC (.int 0)) aNil))) (zA0 (eTup (zA0 (eUn negD (eC (.int 1))) (zA0 (eC (.int 0)) aNil))) (zA0 (eTup (zA0 (eC (.int 0)) (zA0 (eC (.int 1)) aNil))) (zA0 (eTup (zA0 (eC (.int 0)) (zA0 (eUn negD (eC (.int 1))) aNil))) aNil))))) (zAg zA7 (zA0 (eVar 0) (zA0 (eC (.int 4)) aNil)))))
  (sSeq (sIf (tB (eOp ltI (eVar 5) (eC (.int 2)))) (sSeq (sSet 4 (zAg zAc (zA0 (eVar 4) (zA0 (eVar 7) (zA0 (eTup (zA0 (eOp addE (eOp ixD (eOp ixD (eVar 4) (eVar 7)) (eC (.int 0))) (eOp ixD (eVar 8) (eC (.int 0)))) (zA0 (eOp addE (eOp ixD (eOp ixD (eVar 4) (eVar 7)) (eC (.int 1))) (eOp ixD (eVar 8) (eC (.int 1)))) aNil))) aNil)))))
  (sIf (tB (eOp eqI (eVar 5) (eC (.int 1)))) (sSeq (sSet 7 (eOp modD (eOp addE (eVar 7) (eC (.int 1))) (eVar 6)))
  (sSet 4 (zAg zAc (zA0 (eVar 4) (zA0 (eVar 7) (zA0 (eTup (zA0 (eOp subD (eOp ixD (eOp ixD (eVar 4) (eVar 7)) (eC (.int 0))) (eOp ixD (eVar 8) (eC (.int 0)))) (zA0 (eOp subD (eOp ixD (eOp ixD (eVar 4) (eVar 7)) (eC (.int 1))) (eOp ixD (eVar 8) (eC (.int 1)))) aNil))) aNil)))))) zAv)) zAv)
  (sSeq (sIf (tB (eOp eqI (eVar 5) (eC (.int 2)))) (sSeq (sPar [9,10] (zA0 (eOp ixD (eVar 3) (eVar 7)) (zA0 (zAg zA7 (zA0 (eVar 0) (zA0 (eCB lenB (zA0 (eOp ixD (eVar 3) (eVar 7)) aNil)) aNil))) aNil)))
  (sSet 3 (zAg zAc (zA0 (eVar 3) (zA0 (eVar 7) (zA0 (zAg zAc (zA0 (eVar 9) (zA0 (eVar 10) (zA0 (eTup (zA0 (eOp addE (eOp ixD (eOp ixD (eVar 9) (eVar 10)) (eC (.int 0))) (eOp ixD (eVar 8) (eC (.int 0)))) (zA0 (eOp addE (eOp ixD (eOp ixD (eVar 9) (eVar 10)) (eC (.int 1))) (eOp ixD (eVar 8) (eC (.int 1)))) aNil))) aNil)))) aNil)))))) zAv)
  (sSeq (sIf (tB (eOp eqI (eVar 5) (eC (.int 3)))) (sSeq (sSet 3 (eOp addE (eSl slD (eVar 3) pNo (pYes (eVar 7))) (eSl slD (eVar 3) (pYes (eOp addE (eVar 7) (eC (.int 1)))) pNo)))
  (sSet 4 (eOp ixD (eLst (zA0 (eVar 4) (zA0 (eOp addE (eSl slD (eVar 4) pNo (pYes (eVar 7))) (eSl slD (eVar 4) (pYes (eOp addE (eVar 7) (eC (.int 1)))) pNo)) aNil))) (zAg zA7 (zA0 (eVar 0) (zA0 (eC (.int 2)) aNil)))))) zAv)
  (sSeq (sIf (tB (eOp eqI (eVar 5) (eC (.int 4)))) (sSeq (sSet 3 (eOp addE (eVar 3) (eSl slD (eVar 3) (pYes (eVar 7)) (pYes (eOp addE (eVar 7) (eC (.int 1)))))))
  (sSet 4 (eOp addE (eVar 4) (eOp ixD (eLst (zA0 (eSl slD (eVar 4) (pYes (eVar 7)) (pYes (eOp addE (eVar 7) (eC (.int 1))))) (zA0 (eTup (zA0 (eTup (zA0 (eC (.int 0)) (zA0 (eC (.int 0)) aNil))) aNil)) (zA0 (eTup aNil) aNil)))) (zAg zA7 (zA0 (eVar 0) (zA0 (eC (.int 3)) aNil))))))) zAv)
  (sSeq (sIf (tB (eOp eqI (eVar 5) (eC (.int 5)))) (sSet 3 (zAg zAc (zA0 (eVar 3) (zA0 (eVar 7) (zA0 (eOp addE (eOp ixD (eVar 3) (eVar 7)) (eTup (zA0 (eTup (zA0 (eOp subD (zAg zA7 (zA0 (eVar 0) (zA0 (eC (.int 9)) aNil))) (eC (.int 4))) (zA0 (eOp subD (zAg zA7 (zA0 (eVar 0) (zA0 (eC (.int 9)) aNil))) (eC (.int 4))) aNil))) aNil))) aNil))))) zAv)
  (sSeq (sIf (tAnd (tB (eOp eqI (eVar 5) (eC (.int 6)))) (tB (eOp gtD (eCB lenB (zA0 (eOp ixD (eVar 3) (eVar 7)) aNil)) (eC (.int 1))))) (sSet 3 (zAg zAc (zA0 (eVar 3) (zA0 (eVar 7) (zA0 (eSl slD (eOp ixD (eVar 3) (eVar 7)) (pYes (eC (.int 1))) pNo) aNil))))) zAv)
  (sSeq (sIf (tB (eOp eqI (eVar 5) (eC (.int 7)))) (sSet 3 (eOp addE (eSl slD (eVar 3) (pYes (eC (.int 1))) pNo) (eSl slD (eVar 3) pNo (pYes (eC (.int 1)))))) zAv)
  (sSeq (sIf (tB (eOp eqI (eVar 5) (eC (.int 8)))) (sSet 4 (eCB zB4 (zA0 (zAh 2 [] (iVal (eVar 4)) (gTup [(gName 0),(gName 1)]) tYes (eTup (zA0 (eOp subD (eC (.int 0)) (eVar 0)) (zA0 (eOp subD (eC (.int 0)) (eVar 1)) aNil)))) aNil))) zAv)
  (sRet (eTup (zA0 (eVar 2) (zA0 (eVar 3) (zA0 (eVar 4) aNil)))))))))))))))))
noncomputable def zBe:Fn:=zBp 2 11 zEl
noncomputable def zBh:SM:=
  (sSeq (sSet 3 (eOp ixD (eLst (zA0 (eC (.int 0)) (zA0 (eC (.int 2)) (zA0 (eC (.int 5)) (zA0 (eC (.int 900)) aNil))))) (zAg zA7 (zA0 (eVar 0) (zA0 (eC (.int 4)) aNil)))))
  (sSeq (sUnp (gTup [(gName 4),(gName 5)]) (eTup (zA0 (eOp subD (zAg zA7 (zA0 (eVar 0) (zA0 (eOp addD (eOp mulD (eC (.int 2)) (eVar 3)) (eC (.int 1))) aNil))) (eVar 3)) (zA0 (eOp subD (zAg zA7 (zA0 (eVar 0) (zA0 (eOp addD (eOp mulD (eC (.int 2)) (eVar 3)) (eC (.int 1))) aNil))) (eVar 3)) aNil))))
  (sSeq (sSet 6 (eNew (eLst aNil)))
  (sSeq (sFor (iVal (eTup (zA0 (eOp ixD (eVar 1) (eC (.int 1))) (zA0 (eVar 2) aNil)))) (gName 7) (zE1 (eMt "list" zC1 (eVar 6) (zA0 (eCB zB4 (zA0 (zAh 1 [4,5] (iVal (eVar 7)) (gName 0) tYes (eCB zB4 (zA0 (zAh 2 [1,2] (iVal (eVar 0)) (gTup [(gName 0),(gName 1)]) tYes (eTup (zA0 (eOp addD (eVar 0) (eVar 2)) (zA0 (eOp addD (eVar 1) (eVar 3)) aNil)))) aNil))) aNil)) aNil))))
  (sRet (eTup (zA0 (eTup (zA0 (eC (.str (PySem.Str.ofString "heals"))) (zA0 (eOp ixD (eVar 6) (eC (.int 0))) (zA0 (eOp ixD (eVar 1) (eC (.int 2))) aNil)))) (zA0 (eOp ixD (eVar 6) (eC (.int 1))) aNil))))))))
noncomputable def zBf:Fn:=zBp 3 8 zBh
noncomputable def zHh:SM:=
  (sRet (zAh 2 [] (iZp true true (zA0 (eOp ixD (eVar 0) (eC (.int 1))) (zA0 (eOp ixD (eVar 0) (eC (.int 2))) aNil))) (gTup [(gName 0),(gName 1)]) tYes (zAg zDm (zA0 (eVar 0) (zA0 (eVar 1) aNil)))))
noncomputable def zD2:Fn:=zBp 1 1 zHh
noncomputable def zC7:SM:=
  (sSeq (sUnp (gTup [(gName 1),(gName 2)]) (zAh 1 [0] (zCs (zA0 (eC (.int 2)) aNil)) (gName 0) tYes (eTup (zA0 (eOp subD (zAg zA7 (zA0 (eVar 1) (zA0 (eC (.int 7)) aNil))) (eC (.int 3))) (zA0 (eOp subD (zAg zA7 (zA0 (eVar 1) (zA0 (eC (.int 7)) aNil))) (eC (.int 3))) aNil)))))
  (sSeq (sSet 3 (eLst (zA0 (eVar 1) (zA0 (eVar 2) (zA0 (eTup (zA0 (eOp subD (eOp subD (eC (.int 0)) (eOp ixD (eVar 1) (eC (.int 0)))) (eOp ixD (eVar 2) (eC (.int 0)))) (zA0 (eOp subD (eOp subD (eC (.int 0)) (eOp ixD (eVar 1) (eC (.int 1)))) (eOp ixD (eVar 2) (eC (.int 1)))) aNil))) aNil)))))
  (sSeq (sSet 3 (zAh 1 [] (iVal (eVar 3)) (gName 0) (tB (eOp neK (eVar 0) (eTup (zA0 (eC (.int 0)) (zA0 (eC (.int 0)) aNil))))) (eVar 0)))
  (sSeq (sIf (tB (eOp ltI (eCB lenB (zA0 (eVar 3) aNil)) (eC (.int 2)))) (sSet 3 (eLst (zA0 (eTup (zA0 (eC (.int 1)) (zA0 (eC (.int 0)) aNil))) (zA0 (eTup (zA0 (eUn negD (eC (.int 1))) (zA0 (eC (.int 0)) aNil))) aNil)))) zAv)
  (sSeq (sPar [4,5] (zA0 (zAg zA7 (zA0 (eVar 0) (zA0 (eCB lenB (zA0 (eVar 3) aNil)) aNil))) (zA0 (eNew (eLst aNil)) aNil)))
  (sSeq (sFor (iEn false (eVar 3)) (gTup [(gName 6),(gTup [(gName 7),(gName 8)])]) (sSeq (sSet 9 (eNew (eLst aNil)))
  (sSeq (sFor (zCs (zA0 (eOp addD (eC (.int 1)) (zAg zA7 (zA0 (eVar 0) (zA0 (eC (.int 2)) aNil)))) aNil)) (gName 10) (sSeq (sPar [11,12] (zA0 (eOp addD (zAg zA7 (zA0 (eVar 0) (zA0 (eC (.int 2)) aNil))) (eCB intB (zA0 (eOp eqI (eVar 6) (eVar 4)) aNil))) (zA0 (eOp subD (zAg zA7 (zA0 (eVar 0) (zA0 (eC (.int 3)) aNil))) (eC (.int 1))) aNil)))
  (zE1 (eMt "list" zC1 (eVar 9) (zA0 (eTup (zA0 (eOp subD (eOp mulD (eVar 7) (eVar 11)) (eOp mulD (eVar 8) (eVar 12))) (zA0 (eOp addD (eOp mulD (eVar 8) (eVar 11)) (eOp mulD (eVar 7) (eVar 12))) aNil))) aNil)))))
  (zE1 (eMt "list" zC1 (eVar 5) (zA0 (eCB zB4 (zA0 (eUn ssK (eVar 9)) aNil)) aNil))))))
  (sRet (eTup (zA0 (eTup (zA0 (eC (.str (PySem.Str.ofString "heals"))) (zA0 (eCB zB4 (zA0 (eVar 5) aNil)) (zA0 (eCB zB4 (zA0 (eVar 3) aNil)) aNil)))) (zA0 (zAg zC5 (zA0 (zAg zBb (zA0 (eVar 5) aNil)) aNil)) aNil))))))))))
noncomputable def zC6:Fn:=zBp 1 13 zC7
noncomputable def zDo:SM:=
  (sSeq (sIf (tOr (tB (eOp neK (eCB lenB (zA0 (eVar 1) aNil)) (eC (.int 3)))) (tB (eOp neK (eOp ixD (eVar 1) (eC (.int 0))) (eC (.str (PySem.Str.ofString "heals")))))) (sRet (eC (.bl false))) zAv)
  (sSeq (sSet 2 (eOp ixD (eVar 1) (eC (.int 1))))
  (sSeq (sSet 3 (eOp ixD (eVar 1) (eC (.int 2))))
  (sSeq (sIf (tOr (tB (eOp neK (eCB lenB (zA0 (eVar 2) aNil)) (eCB lenB (zA0 (eVar 3) aNil)))) (tNot (tB (zJl leD leD (eC (.int 1)) (eCB lenB (zA0 (eVar 2) aNil)) (eC (.int 8)))))) (sRet (eC (.bl false))) zAv)
  (sSeq (sIf (tNot (tTru (eCB allB (zA0 (zAh 1 [0] (iVal (eVar 2)) (gName 0) tYes (zAg zBu (zA0 (eVar 1) (zA0 (eVar 0) aNil)))) aNil)))) (sRet (eC (.bl false))) zAv)
  (sRet (eAnd (zAg zCj (zA0 (eVar 3) aNil)) (eOp geD (eCB sumI (zA0 (zAg zD2 (zA0 (eVar 1) aNil)) aNil)) (eC (.int 1))))))))))
noncomputable def zAk:Fn:=zBp 2 4 zDo
noncomputable def zXa:SM:=
  (sSeq (sSet 1 (zAg zCk (zA0 (eVar 0) aNil)))
  (sSeq (sUnp (gTup [(gName 2),(gName 3)]) (zAg zC6 (zA0 (eVar 1) aNil)))
  (sSeq (sIf (tB (eOp eqI (zAg zA7 (zA0 (eVar 1) (zA0 (eC (.int 5)) aNil))) (eC (.int 0)))) (sSet 2 (eTup (zA0 (eC (.str (PySem.Str.ofString "heals"))) (zA0 (eOp addE (eOp ixD (eVar 2) (eC (.int 1))) (eUn revT (eOp ixD (eVar 2) (eC (.int 1))))) (zA0 (eOp addE (eOp ixD (eVar 2) (eC (.int 2))) (eUn revT (eOp ixD (eVar 2) (eC (.int 2))))) aNil))))) zAv)
  (sSeq (sUnp (gTup [(gName 2),(gName 3)]) (zAg zBf (zA0 (eVar 1) (zA0 (eVar 2) (zA0 (eVar 3) aNil)))))
  (sSeq (sFor (iVal (eTup (zA0 (eC (.int 7)) (zA0 (eC (.int 8)) (zA0 (eC (.int 9)) (zA0 (eC (.int 10)) aNil)))))) (gName 4) (sSeq (sSet 5 (eOp subD (eVar 4) (eCB lenB (zA0 (eOp ixD (eVar 2) (eC (.int 1))) aNil))))
  (sSeq (sSet 6 (eTup (zA0 (eC (.str (PySem.Str.ofString "heals"))) (zA0 (eOp addE (eOp ixD (eVar 2) (eC (.int 1))) (eOp mulT (eSl slD (eOp ixD (eVar 2) (eC (.int 1))) pNo (pYes (eC (.int 1)))) (eVar 5))) (zA0 (eOp addE (eOp ixD (eVar 2) (eC (.int 2))) (eOp mulT (eTup (zA0 (eTup (zA0 (eC (.int 0)) (zA0 (eC (.int 0)) aNil))) aNil)) (eVar 5))) aNil)))))
  (sIf (tB (eOp neK (zAg zAk (zA0 (eVar 3) (zA0 (eVar 6) aNil))) (eOp ltI (eVar 4) (eC (.int 9))))) (sRet (eC (.bl false))) zAv))))
  (sSeq (sUnp (gTup [(gTup [(gName 7),(gName 8)]),(gTup [(gName 9),(gName 10)])]) (eTup (zA0 (eOp ixD (eOp ixD (eOp ixD (eVar 2) (eC (.int 1))) (eC (.int 0))) (eC (.int 0))) (zA0 (eOp ixD (eOp ixD (eVar 2) (eC (.int 2))) (eC (.int 0))) aNil))))
  (sSeq (sSet 11 (eCB zB4 (zA0 (zAh 1 [7,8,9,10] (zCs (zA0 (eOp addE (eC (.int 8)) (zAg zA7 (zA0 (eVar 1) (zA0 (eC (.int 50)) aNil)))) aNil)) (gName 0) tYes (eTup (zA0 (eOp addE (eVar 1) (eOp mulT (eVar 3) (eVar 0))) (zA0 (eOp addE (eVar 2) (eOp mulT (eVar 4) (eVar 0))) aNil)))) aNil)))
  (sSeq (sFor (iVal (eTup (zA0 (eC (.int 0)) (zA0 (eC (.int 1)) (zA0 (eOp addE (eC (.int 1)) (zAg zA7 (zA0 (eVar 1) (zA0 (eC (.int 40)) aNil)))) aNil))))) (gName 12) (sSeq (sSet 13 (eOp addE (eOp addE (eVar 11) (eTup (zA0 (eTup (zA0 (eOp subD (eVar 7) (eOp mulT (eVar 9) (eVar 12))) (zA0 (eOp subD (eVar 8) (eOp mulT (eVar 10) (eVar 12))) aNil))) aNil))) (eSl slD (eOp ixD (eOp ixD (eVar 2) (eC (.int 1))) (eC (.int 0))) (pYes (eC (.int 1))) pNo)))
  (sSeq (sSet 14 (eTup (zA0 (eC (.str (PySem.Str.ofString "heals"))) (zA0 (eOp addE (eTup (zA0 (eVar 13) aNil)) (eSl slD (eOp ixD (eVar 2) (eC (.int 1))) (pYes (eC (.int 1))) pNo)) (zA0 (eOp ixD (eVar 2) (eC (.int 2))) aNil)))))
  (sIf (tB (eOp neK (zAg zAk (zA0 (eVar 3) (zA0 (eVar 14) aNil))) (zAg zB2 (zA0 (eVar 3) (zA0 (eVar 14) aNil))))) (sRet (eC (.bl false))) zAv))))
  (sSeq (sIf (tOr (tNot (tTru (zAg zAk (zA0 (eVar 3) (zA0 (eVar 2) aNil))))) (tNot (tTru (zAg zB2 (zA0 (eVar 3) (zA0 (eVar 2) aNil)))))) (sRet (eC (.bl false))) zAv)
  (sSeq (sSet 15 (eNew (eLst (zA0 (eVar 3) (zA0 (zAg zBb (zA0 (eOp addE (eVar 3) (eTup (zA0 (eSl slD (eOp ixD (eVar 3) (eC (.int 0))) pNo (pYes (eC (.int 1)))) aNil))) aNil)) aNil)))))
  (sSeq (sIf (tB (eOp gtD (eCB lenB (zA0 (eVar 3) aNil)) (eC (.int 1)))) (zE1 (eMt "list" zC1 (eVar 15) (zA0 (eSl slD (eVar 3) (pYes (eC (.int 1))) pNo) aNil))) zAv)
  (sSeq (sFor (zCs (zA0 (eC (.int 6)) aNil)) (gName 16) (sSeq (sSet 14 (eOp ixD (eLst (zA0 (eVar 2) (zA0 (zAg zBe (zA0 (eVar 1) (zA0 (eVar 2) aNil))) aNil))) (eCB intB (zA0 (eOp gtD (eVar 16) (eC (.int 0))) aNil))))
  (sSeq (sIf (tB (eOp gtD (eVar 16) (eC (.int 3)))) (sSet 14 (zAg zBe (zA0 (eVar 1) (zA0 (eVar 14) aNil)))) zAv)
  (sFor (iVal (eVar 15)) (gName 17) (sIf (tB (eOp gtD (eCB lenB (zA0 (eOp ixD (eVar 14) (eC (.int 1))) aNil)) (eC (.int 0)))) (sSeq (sSet 18 (zAg zAk (zA0 (eVar 17) (zA0 (eVar 14) aNil))))
  (sIf (tOr (tNot (tTru (eCB isiQ (zA0 (eVar 18) (zA0 (eC (.ty "bool")) aNil))))) (tB (eOp neK (eVar 18) (zAg zB2 (zA0 (eVar 17) (zA0 (eVar 14) aNil)))))) (sRet (eC (.bl false))) zAv)) zAv)))))
  (sRet (zAg zAk (zA0 (eVar 3) (zA0 (eVar 2) aNil))))))))))))))))
noncomputable def zN9:Fn:=zBp 1 19 zXa
end
end DP
namespace L2
open PySem PySem.Spec PyProof.Rows
open DS (D Store Exn Rs SR)
section
variable {prog:Program}{w:World}{A:Around}{E:Value->Shared->Prop}{s:Shared}
theorem zTb {t b:Addr}{ws:List Value}{Q:Value->Shared->Prop}(ht:IsTup s.heap t (List.toArray [])) (hb:IsTup s.heap b ws.toArray) (h:Q (.ref b) s):wpAny (model prog w) A (binaryOp .Add (.ref t) (.ref b)) Q E s:=by
 obtain⟨⟨c1,d1,a1,l1⟩,o1,k1,n1,e1⟩:=ht
 obtain⟨⟨c2,d2,a2,l2⟩,o2,k2,n2,e2⟩:=hb
 dsimp only at k1 e1 k2 e2
 cases k1;cases e1;cases k2;cases e2
 exact concat_meets ⟨_,o1,rfl⟩ ⟨_,o2,rfl⟩ noFill_tuple_add seq_tuple_add PySem.F.slot_tuple_add PySem.F.entry_tuple_add (PySem.F.args_tuple_add_2 _ _) (tuple_addW0 t b _ _ n1 n2 d1 d2 l1 l2 rfl) ⟨o1,o2,h⟩
end
section
variable {X:Cx}{K:PySem.W.Frag}
theorem zAp (hK:X.K=K:=by rfl):OpR X (binaryOp .Add) (r2Of K DS.addE):=by
 intro pins s σ H x y v u Q I rx ry ⟨J,S,d1,d2,d,ha,r1,r2,e,k⟩
 unfold DS.addE at e
 split at e
 ·subst hK
  cases e
  obtain⟨a,xs,rfl,t1,q1⟩:=r1
  cases q1
  obtain⟨b,ys,rfl,t2,q2⟩:=id r2
  cases rx
  cases ry
  obtain⟨its,z1,p1,_⟩:=I.tuple t1.sq
  obtain⟨its2,z2,p2,_⟩:=I.tuple t2.sq
  cases z1
  exact zTb p1 p2 ⟨.ref b,H,I,rfl,k _ H ha .refl ⟨b,ys,rfl,t2,q2⟩⟩
 ·exact zBy hK pins s σ H x y v u Q I rx ry ⟨J,S,d1,d2,d,ha,r1,r2,e,k⟩
end
end L2
namespace L2
open PySem PySem.Spec PyProof.Rows
open DS (D Store Exn Rs SR)
theorem zM1 (its:List Value):∀(k:Nat) (acc:List Value),List.foldl (fun x1 x2=>x1++x2) acc.toArray (List.replicate k its.toArray)=(acc++(List.replicate k its).flatten).toArray
 | 0,acc=>by simp
 | k+1,acc=>by
  rw[uh,List.foldl_cons,show acc.toArray++its.toArray=(acc++its).toArray by simp,zM1 its k]
  simp[uh]
theorem zL6 {xs:List V}{us:List Value}(h:Vals xs us):∀k:Nat,Vals (List.replicate k xs).flatten (List.replicate k us).flatten
 | 0=>.nil
 | k+1=>by simpa[uh]using h.append (zL6 h k)
section
variable {X:Cx}{K:PySem.W.Frag}{J:Js}{S:Store}{H:Hp}
theorem zOg {ds:List D}{xs:List V}(h:RepL K J H ds xs):∀k:Nat,RepL K J H (List.replicate k ds).flatten (List.replicate k xs).flatten
 | 0=>rfl
 | k+1=>by simpa[uh]using h.append (zOg h k)
end
end L2
namespace PySem
open Sem (wp)
open Builtin AutoSeq1
theorem zGv:fillsNumberSlot (.type "tuple") "mul"=pure false:=
 fillsNumberSlot_seq (id:="tuple.__mul__") (r:=some (.builtin "tuple.__rmul__")) F.slot_tuple_mul.lookup (by decide +kernel) F.slot_tuple_rmul.lookup (by decide +kernel)
theorem zMq:seqRepeat? (.type "tuple")=pure (some (.builtin "tuple.__mul__")):=by
 unfold seqRepeat?
 rw[seqSlot_of (T:="tuple") (name:="__mul__") (id:="tuple.__mul__") F.slot_tuple_mul.lookup (by decide +kernel),seqSlot_of (T:="tuple") (name:="__rmul__") (id:="tuple.__rmul__") F.slot_tuple_rmul.lookup (by decide +kernel)]
 rfl
theorem zIz (a:Int) (t:Tok) (l:Addr) (o:Obj) (its:Array Value) (n:Nat) (hc:o.cls=.type "tuple") (hd:o.data=.seq its n):
  Meets (Builtin.«int.__rmul__» ⟨[.int a t,.ref l],[]⟩) (fun _ R s=>s.heap.get? l=some o/\R (.ok (.ret Value.notImplemented)) s):=
 .of_wp fun prog w A R s h=>by obtain⟨hp,g,d,tk,os⟩:=s;obtain⟨cls,dict,data,sl⟩:=o;cases hc;cases hd;obtain⟨hl,h⟩:=h;wp_walk;exact⟨_,rfl,h⟩
theorem zNw (a:Int) (t:Tok) (l:Addr) (o:Obj) (its:Array Value) (n:Nat) (hc:o.cls=.type "tuple") (hd:o.data=.seq its n) (h1:a=1):
  Meets (Builtin.«tuple.__mul__» ⟨[.ref l,.int a t],[]⟩) (fun _ R s=>s.heap.get? l=some o/\R (.ok (.ret (.ref l))) s):=
 .of_wp fun prog w A R s h=>by
  obtain⟨hp,g,d,tk,os⟩:=s;obtain⟨cls,dict,data,sl⟩:=o;cases hc;cases hd;subst h1;obtain⟨hl,h⟩:=h;have f1:=AutoSeq1.idx_int;have f2:=AutoSeq1.sub_tuple_tuple;wp_walk using wpAny_loadPart' hl;exact⟨_,rfl,h⟩
theorem zNv (a:Int) (t:Tok) (l:Addr) (o:Obj) (its:Array Value) (n:Nat) (hc:o.cls=.type "tuple") (hd:o.data=.seq its n) (h1:2<=a) (h2:a<=1000000) (he:its.isEmpty=false) (hz:its.size*a.toNat<=sizeLine):
  Meets (Builtin.«tuple.__mul__» ⟨[.ref l,.int a t],[]⟩) (fun _ R s=>s.heap.get? l=some o/\R (.ok (.ret (.ref s.heap.objs.size))) { s with heap:=s.heap.push { cls:=.type "tuple",data:=.seq ((List.replicate a.toNat its).foldl (fun x y=>x++y) #[]) } }):=
 .of_wp fun prog w A R s h=>by
  obtain⟨hp,g,d,tk,os⟩:=s;obtain⟨cls,dict,data,sl⟩:=o;cases hc;cases hd;obtain⟨hl,h⟩:=h;have f1:=AutoSeq1.idx_int;have f2:=AutoSeq1.sub_tuple_tuple;have sl':sizeLine<=2 ^ 24:=by decide
  have hz2:(its.size:Int)*a<=2 ^ 24:=by
   have e:(its.size:Int)*a=((its.size*a.toNat:Nat):Int):=by rw[Int.natCast_mul,Int.toNat_of_nonneg (by nofun)]
   rw[e];have:=xk hz sl';exact_mod_cast this
  have g1:¬ (decide (a < -2 ^ 63) || decide (a >= 2 ^ 63))=true:=by simp;lia
  have g2:¬ (its.isEmpty || a == 1)=true:=by rw[he];simp;lia
  have g3:¬ (decide (a<=0) || its.isEmpty)=true:=by rw[he];simp;lia
  have g4:¬ ((its.size:Int)*a > (2 ^ 63-1) / 8):=by nofun
  have g5:¬ Builtin.Tuple.tupleTooMany ((its.size:Int)*a)=true:=by simp[Builtin.Tuple.tupleTooMany];lia
  have g6:(List.foldl (fun x1 x2=>x1++x2) #[] (List.replicate a.toNat its)).size<=sizeLine:=by rw[AutoSeq1.size_joined];simpa[Nat.mul_comm]using hz
  wp_walk using wpAny_loadPart' hl
  rw[xg g1]
  wp_walk using wpAny_loadPart' hl
  rw[xg g2]
  wp_walk using wpAny_loadPart' hl
  rw[xg g3]
  wp_walk using wpAny_loadPart' hl
  rw[xg g4]
  wp_walk using wpAny_loadPart' hl
  exact⟨_,rfl,h⟩
end PySem
namespace L2
open PySem PySem.Spec PyProof.Rows
open DS (D Store Exn Rs SR)
section
variable {X:Cx}{K:PySem.W.Frag}{J:Js}{S:Store}{H:Hp}
theorem zW3 {pins:List (Addr × Obj)}{σ:St}{s:Shared}{a:Addr}{xs:List V}{n:Int}{t:Tok}{Q:VK}(I:Inv X pins σ H s) (hs:SqT X.K H a xs) (hx:xs≠[]) (h0:1<=n) (h2:n<=1000000) (hz:xs.length*n.toNat<=sizeLine)
  (q1:n=1->Q (.ref a) H) (q:∀p,H p=none->Q (.ref p) (upd H p (.tup (List.replicate n.toNat xs).flatten))):wpAny (model X.prog X.w) X.A (binaryOp .Mult (.ref a) (.int n t)) (EP X pins σ Q) X.xe s:=by
 obtain⟨its,r,⟨o,e,hc,k,hd⟩,_⟩:=I.tuple hs
 have hl:=r.length
 have ne:its.toArray.isEmpty=false:=by
  cases its with
  | nil=>exact absurd (uL hl) hx
  | cons u us=>rfl
 have sz:its.toArray.size*n.toNat<=sizeLine:=by rw[xx,<- hl];exact hz
 refine wpAny_binaryOp_repeat_ref (T:="tuple") (U:="int") (by decide) ⟨_,e,hc⟩ (fun s'=>typeIs_int s' n t) zGv F.fills_int_mul F.slot_int_rmul zMq F.slot_int_index.lookup ?_
 refine call_meets F.slot_int_rmul (typeIs_int s n t) F.entry_int_rmul (F.args_int_rmul_2 _ _) (zIz n t a o _ _ hc hd) ⟨e,rfl,⟨_,e,hc⟩,?_⟩
 by_cases h1:n=1
 ·exact call_meets F.slot_tuple_mul ⟨_,e,hc⟩ F.entry_tuple_mul (F.args_tuple_mul_2 _ _) (zNw n t a o _ _ hc hd h1) ⟨e,.ref a,H,I,rfl,q1 h1⟩
 ·refine call_meets F.slot_tuple_mul ⟨_,e,hc⟩ F.entry_tuple_mul (F.args_tuple_mul_2 _ _) (zNv n t a o _ _ hc hd (by nofun) h2 ne sz) ⟨e,?_⟩
  rw[show(#[]:Array Value)=([]:List Value).toArray from rfl,zM1 its n.toNat [],ur]
  have hzz:(List.replicate n.toNat xs).flatten.length<=sizeLine:=by rw[len_rep,Nat.mul_comm];exact hz
  exact⟨.ref s.heap.objs.size,_,I.laid (t':=s.toks) (o:=.tup (List.replicate n.toNat xs).flatten) (fun b ob z=>xn _ z) (xi _) ⟨hzz,_,zL6 r n.toNat,IsTup.new _ _⟩,rfl,q _ I.fresh⟩
theorem zEq (hK:X.K=K:=by rfl):OpR X (binaryOp .Mult) (r2Of K DS.mulT):=by
 intro pins s σ H x y v u Q I rx ry ⟨J,S,d1,d2,d,ha,r1,r2,e,k⟩
 unfold DS.mulT at e
 split at e
 ·rename_i l n
  split at e
  ·rename_i h
   subst hK
   cases e
   obtain⟨a,xs,rfl,t1,q1⟩:=id r1
   obtain rfl:=r2
   cases rx
   obtain⟨t,rfl⟩:=ry
   have el:=q1.length
   refine zW3 I t1.sq (fun z=>h.1 (by subst z;exact uL el)) h.2.1 h.2.2.2 (by rw[<- el];exact h.2.2.1) (fun z=>?_) fun p n=>k _ _ (ha.push n) (.push n) ⟨p,_,rfl,⟨zB1,ha.out n⟩,RepL.grow (.push n) _ _ (zOg q1 _)⟩
   subst z
   have e1:(List.replicate (1:Int).toNat l).flatten=l:=by simp
   rw[e1]at k
   exact k _ H ha .refl ⟨a,xs,rfl,t1,q1⟩
  ·cases e
 ·exact zBo pins s σ H x y v u Q I rx ry ⟨J,S,d1,_,d,ha,r1,r2,e,k⟩
end
end L2
namespace PySem
open Sem (wp)
theorem zWm {prog:Program}{w:World}{A:Around}{E:Value->Shared->Prop}{s:Shared}{a:Addr}{o:Obj}{xs:Array Value}{k:Nat}{name:Str}{Q:Option Value->Shared->Prop}
  (hx:s.heap.get? a=some o) (hc:o.cls=.type "list") (hdat:o.data=.seq xs k) (hd:o.dict=none) (hmiss:typeLookup (.type "list") name=pure none) (hname:(["__module__","__name__","__qualname__","__doc__","__annotations__"]:List Str).contains name=false) (hA:A.handled=none)
  (h:∀h' tk,(∀b ob,s.heap.get? b=some ob->h'.get? b=some ob)->Q none { s with heap:=h',toks:=tk }) (hsz:name.length+100<=sizeLine):
  wpAny (model prog w) A (getAttr? (.ref a) name) Q E s:=by
 obtain⟨c,dct,dat,sl⟩:=o
 simp only at hc hdat hd
 subst hc hdat hd
 obtain⟨hp,g,d,tk,os⟩:=s
 have hT:∀tk',(⟨hp,g,d,tk',os⟩:Shared).TypeIs (.ref a) "list":=fun _=>⟨_,hx,rfl⟩
 have f1:=sub_AttributeError
 have f3:=F.slot_list_getattribute.lookup
 have f4:=F.slot_list_getattribute.bind (.ref a)
 have f5:=am_list_getattr_none
 unfold getAttr? getAttrBy? getAttrBy
 repeat (any_goals (first|assumption|exact hT _|((with_reducible show wpAny _ _ (call (Value.builtin "list.__getattribute__") _ _) _ _ _);refine call_meets F.slot_list_getattribute (hT _) am_entry_list_getattribute (F.args_list_getattribute_2 _ _) (meets_getattribute_miss_list a xs k sl name _ hmiss hname hsz) ⟨hx,hA,fun h' tk' e hx'=>?_⟩)|wp_step))
 obtain⟨t',u',he⟩:=hx'.there
 show wpAny _ _ (getattributeRaised _ _ _ _ _ _ _) _ _ _
 unfold getattributeRaised
 repeat (any_goals (first|assumption|wp_step))
 exact h _ _ hx'.keeps
end PySem
namespace PySem
open Sem (wp)
namespace F
theorem plain_upd_loop:plainId "dict.update.loop"=true:=by decide +kernel
theorem entry_upd_loop:entryFor table "dict.update.loop"=some Builtin.«dict.update.loop»:=entryFor_of_fast (by kernel_rfl)
end F
section
variable {prog:Program}{w:World}{K:Type}[DecidableEq K] {kd:HeapKind prog w K}{A:Around}{R:Result->Shared->Prop}
noncomputable abbrev zK3 (K:Type):=K × Addr × Addr × Value
noncomputable def zO6 (xs:List (K × Addr × Value)) (ps:List (zK3 K)):List (K × Addr × Value):=ps.foldl (fun acc q=>storedH acc q.1 q.2.2.1 q.2.2.2) xs
theorem zMy {xs:List (K × Addr × Value)}{k:K}{a:Addr}{v:Value}{x:K × Addr × Value}(h:x∈storedH xs k a v):(∃y∈xs,y.1=x.1/\y.2.1=x.2.1)\/(x.1=k/\x.2.1=a):=by
 unfold storedH at h
 split at h
 ·obtain⟨y,hy,e⟩:=xq.mp h
  refine .inl ⟨y,hy,?_⟩
  unfold putAt at e
  split at e <;> (subst e;exact⟨rfl,rfl⟩)
 ·rcases xG.mp h with z|z
  ·exact .inl ⟨x,z,rfl,rfl⟩
  ·rw[xF.mp z];exact .inr ⟨rfl,rfl⟩
theorem zMz (xs:List (K × Addr × Value)) (k:K) (a:Addr) (v:Value):(storedH xs k a v).length<=xs.length+1:=by
 unfold storedH
 split
 ·rw[xp];exact Nat.le_succ _
 ·rw[xy];exact xi _
theorem zL8 (hh:A.handled=none) (hu:kd.room A.in1) (kp:∀{h h':Heap}{k:K}{a:Addr},kd.is h k a->(∀o,h.get? a=some o->h'.get? a=some o)->kd.is h' k a) {h₁:Heap}{I l p:Addr}(hIl:l≠I) (hpl:p≠l) (hpI:p≠I) {its:Array Value}:
  ∀(rest:List (zK3 K)) (i:Nat) (c:Int) (t:Tok) (s:Shared) (xs:List (K × Addr × Value)),(∀j,its[i+j]?=rest[j]?.map fun q=>.ref q.2.1)->i+rest.length=its.size->
  s.heap.IsListIter I l i->s.heap.IsList l its->(∀b o,b≠I->b≠p->h₁.get? b=some o->s.heap.get? b=some o)->s.heap.DictOfH kd p xs->
  (∀x∈xs,x.2.1≠I)->
  (∀q∈rest,PyProof.Rows.IsTup h₁ q.2.1 #[.ref q.2.2.1,q.2.2.2]/\q.2.1≠I/\q.2.1≠p/\kd.is h₁ q.1 q.2.2.1/\q.2.2.1≠I/\q.2.2.1≠p)->xs.length+rest.length<=sizeLine->
  (∀h' tk,h'.DictOfH kd p (zO6 xs rest)->(∀b o,b≠I->b≠p->h₁.get? b=some o->h'.get? b=some o)->R (.ok (.ret .none)) { s with heap:=h',toks:=tk })->
  codeAny (model prog w) A (.builtin "dict.update.loop" ⟨[.ref p,.ref I,.int c t,.none],[]⟩) R s
 | [],i,c,t,s,xs,hi,hn,hit,hl,hk,hd,hx,_,_,hR=>by
  have W:=Walks.list (prog:=prog) (w:=w) (A:=A.in1) hh I l hIl its
  refine uu F.entry_upd_loop ?_
  rw[yr F.plain_upd_loop _]
  show wpAny _ A.in1 (pyNext (.ref I) >>= _) _ _ s
  refine xa (W.done s _ _ ⟨by rw[<- hn];exact hit,hl⟩ fun h' tk hk'=>?_)
  have kk:∀b o,b≠I->s.heap.get? b=some o->h'.get? b=some o:=fun b o hb e=>hk' b o (fun z=>hb (xF.mp z)) e
  show wpAny _ A.in1 (Builtin.Dict.addKeywords p [] >>= _) _ _ _
  refine xa (xh (xh (hR h' tk ?_ fun b o h1 h2 e=>kk b o h1 (hk b o h1 h2 e))))
  obtain⟨o,es,ep,g1,g2,g3,g4,g5,g6⟩:=hd
  exact⟨o,es,ep,kk _ _ hpI g1,g2,g3,g4,fun x hx'=>kp (g5 x hx') fun o e=>kk _ _ (hx x hx') e,g6⟩
 | q::rest,i,c,t,s,xs,hi,hn,hit,hl,hk,hd,hx,hq,hz,hR=>by
  have W:=Walks.list (prog:=prog) (w:=w) (A:=A.in1) hh I l hIl its
  have lt:i<its.size:=by rw[<- hn,xE];lia
  refine uu F.entry_upd_loop ?_
  rw[yr F.plain_upd_loop _]
  show wpAny _ A.in1 (pyNext (.ref I) >>= _) _ _ s
  refine xa (W.item i s _ _ lt ⟨hit,hl⟩ fun v h' tk hP hst hk'=>?_)
  have kk:∀b o,b≠I->s.heap.get? b=some o->h'.get? b=some o:=fun b o hb e=>hk' b o (fun z=>hb (xF.mp z)) e
  have hv:v=.ref q.2.1:=by
   have:=hi 0
   rw[Nat.add_zero,hP]at this
   exact xJ this
  subst hv
  obtain⟨⟨ot,ht,htc,n,htd⟩,a1,a2,a3,a4,a5⟩:=hq q (.head _)
  have ht':=kk _ _ a1 (hk _ _ a1 a2 ht)
  refine xa (xK ?_)
  refine xa (wpAny_tryCatch ?_)
  unfold Builtin.Dict.pairItems
  refine xa (vY (T:="tuple") ⟨ot,ht',htc⟩ ?_)
  rw[xf (by decide)]
  refine xa (vD ht' htd (xh ?_))
  show wpAny _ A.in1 (holding [.ref q.2.2.1,q.2.2.2] (dictSet p (.ref q.2.2.1) q.2.2.2)) _ _ _
  have hd':h'.DictOfH kd p xs:=by
   obtain⟨o,es,ep,g1,g2,g3,g4,g5,g6⟩:=hd
   exact⟨o,es,ep,kk _ _ hpI g1,g2,g3,g4,fun x hx'=>kp (g5 x hx') fun o e=>kk _ _ (hx x hx') e,g6⟩
  have key:kd.is h' q.1 q.2.2.1:=kp a3 fun o e=>kk _ _ a4 (hk _ _ a4 a5 e)
  refine xK (wpAny_dictSet_heap (s:={ s with heap:=h',toks:=tk }) (hsz:=by rw[xE]at hz;lia) hu key hd' fun h2 hd2 sb=>?_)
  have k2:∀b o,b≠p->h'.get? b=some o->h2.get? b=some o:=fun b o hb e=>(sb.2 b hb).trans e
  refine xh ⟨u3 F.plain_upd_loop _,?_⟩
  refine zL8 hh hu kp hIl hpl hpI rest (i+1) _ _ { s with heap:=h2,toks:=tk+kd.draws q.1 } (storedH xs q.1 q.2.2.1 q.2.2.2) (fun j=>?_) (by rw[<- hn,xE];lia) (hst.1.at fun o e=>k2 _ _ (xw hpI) e) (hst.2.at fun o e=>k2 _ _ (xw hpl) e) (fun b o h1 h2' e=>k2 b o h2' (kk b o h1 (hk b o h1 h2' e))) hd2 (fun x hx'=>?_) (fun q' hq'=>hq q' (.tail _ hq')) ?_ ?_
  ·have:=hi (j+1)
   rw[show i+(j+1)=i+1+j by nofun]at this
   exact this
  ·rcases zMy hx' with⟨y,hy,_,e⟩|⟨_,e⟩
   ·rw[<- e];exact hx y hy
   ·rw[e];exact a4
  ·have:=zMz xs q.1 q.2.2.1 q.2.2.2
   rw[xE]at hz
   lia
  ·intro h3 tk3 hd3 kk3
   exact hR h3 tk3 hd3 kk3
end
end PySem
namespace PySem
open Sem (wp)
section
variable {prog:Program}{w:World}{K:Type}[DecidableEq K] {kd:HeapKind prog w K}{A:Around}{E:Value->Shared->Prop}{s:Shared}
theorem zGf (hh:A.handled=none) (hu:kd.room A.in1.in1) (kp:∀{h h':Heap}{k:K}{a:Addr},kd.is h k a->(∀o,h.get? a=some o->h'.get? a=some o)->kd.is h' k a) {l:Addr}{o:Obj}{its:Array Value}{n:Nat}{ps:List (zK3 K)}{Q:Value->Shared->Prop}
  (ho:s.heap.get? l=some o) (hc:o.cls=.type "list") (hd:o.data=.seq its n) (hdi:o.dict=none) (hl:s.heap.IsList l its) (hi:its.toList=ps.map fun q=>.ref q.2.1)
  (hq:∀q∈ps,PyProof.Rows.IsTup s.heap q.2.1 #[.ref q.2.2.1,q.2.2.2]/\kd.is s.heap q.1 q.2.2.1/\q.2.2.1<s.heap.objs.size) (hz:ps.length<=sizeLine)
  (h:∀h' tk,h'.DictOfH kd s.heap.objs.size (zO6 [] ps)->(∀b o,s.heap.get? b=some o->h'.get? b=some o)->Q (.ref s.heap.objs.size) { s with heap:=h',toks:=tk }):
  wpAny (model prog w) A (call (.type "dict") [.ref l]) Q E s:=by
 refine callType_codes (Q₁:=fun obj s₁=>obj=.ref s.heap.objs.size/\s₁={ s with heap:=s.heap.push { cls:=.type "dict",data:=.dict #[] } }) F.kt_called_dict (F.kt_typeCall_dict_1 _) F.entry_dict_init (kt_code_dict_new _ ⟨rfl,rfl⟩) ?_
 rintro obj s₁ ⟨rfl,rfl⟩
 have hnew:(s.heap.push { cls:=.type "dict",data:=.dict #[] }).DictOfH kd s.heap.objs.size []:=Heap.DictOfH.new s.heap
 have lp:l<s.heap.objs.size:=xo ho
 have ho1:(s.heap.push { cls:=.type "dict",data:=.dict #[] }).get? l=some o:=xn _ ho
 refine⟨hnew.typeIs,F.args_dict_init_2 _ _,?_⟩
 unfold Builtin.«dict.__init__»
 refine xa ?_
 unfold Builtin.Dict.selfAndRest
 refine xa (wpAny_notOrdered_dict hnew.typeIs ?_)
 show wpAny _ _ (pure (s.heap.objs.size,[Value.ref l])) _ _ _
 refine xh ?_
 show wpAny _ _ (Builtin.Dict.updateFrom "dict.__init__" s.heap.objs.size (.ref l) [] .none) _ _ _
 unfold Builtin.Dict.updateFrom
 refine xa (vY (T:="list") ⟨o,ho1,hc⟩ ?_)
 rw[xf (by decide)]
 refine xa (zWm (s:={ s with heap:=s.heap.push { cls:=.type "dict",data:=.dict #[] } }) ho1 hc hd hdi (by rw[yk,ym];kernel_rfl) (by decide +kernel) hh (fun h2 tk2 k2=>?_) (by decide +kernel))
 rw[xf (by rfl)]
 refine xa (vG ?_)
 have hl2:h2.IsList l its:=hl.at fun o e=>k2 _ _ (xn _ e)
 refine xa (v9 hl2 ?_)
 have kb:∀b o,s.heap.get? b=some o->(h2.push { cls:=.type "list_iterator",data:=.fields #[.ref l,rawInt 0] }).get? b=some o:=fun b o e=>xn _ (k2 _ _ (xn _ e))
 have pl:s.heap.objs.size<h2.objs.size:=xo (k2 _ _ (xA _ rfl))
 have hl1:l≠h2.objs.size:=xr (vH lp pl)
 refine xh ⟨u3 F.plain_upd_loop _,?_⟩
 refine zL8 (A:=A.in1) (h₁:=s.heap) hh hu kp (I:=h2.objs.size) (l:=l) (p:=s.heap.objs.size) hl1 (uf lp) (xr pl) (its:=its) ps 0 _ _ _ [] (fun j=>?_) ?_ ?_ ?_ ?_ ?_ ?_ ?_ ?_ ?_
 ·rw[vK,<- uZ,hi,vm]
 ·have:=congrArg List.length hi
  rw[xp,uB]at this
  rw[vK,this]
 ·exact⟨_,xA _ rfl,rfl,rfl⟩
 ·exact hl2.push _
 ·exact fun b o _ _ e=>kb b o e
 ·obtain⟨od,es,ep,g1,g2,g3,g4,g5,g6⟩:=hnew
  exact⟨od,es,ep,xn _ (k2 _ _ g1),g2,g3,g4,(fun x hx=>nomatch hx),g6⟩
 ·exact fun x hx=>nomatch hx
 ·intro q hq'
  obtain⟨h1,h2',h3⟩:=hq q hq'
  have b1:q.2.1<s.heap.objs.size:=by obtain⟨_,e,_⟩:=h1;exact xo e
  exact⟨h1,xr (vH b1 pl),xr b1,h2',xr (vH h3 pl),xr h3⟩
 ·rw[v7,vK];exact hz
 ·intro h' tk hd' kk
  exact⟨rfl,h h' tk hd' fun b o e=>kk b o (xr (vH (xo e) pl)) (xr (xo e)) e⟩
end
end PySem
namespace L2
open PySem PySem.Spec PyProof.Rows
open DS (D Store Exn Rs SR)
section
variable {X:Cx}{K:PySem.W.Frag}{J:Js}{S:Store}{H:Hp}
noncomputable abbrev PV:=List Key × Addr × Addr × V
noncomputable def putV (kvs:List (List Key × V)) (qs:List PV):List (List Key × V):=qs.foldl (fun a q=>putK a q.1 q.2.2.2) kvs
theorem zLn:∀{l:List D}{ps:List (D × D)}{ys:List V},DS.pairsOf l=some ps->RepL K J H l ys->∃qs:List PV,ys=qs.map (fun q=>.ref q.2.1)/\(∀q∈qs,H q.2.1=some (.tup [.ref q.2.2.1,q.2.2.2])/\H q.2.2.1=some (.tup (q.1.map kV)))/\qs.length=ps.length/\∀{kvs:List (List Key × V)}{vs:List D},RepL K J H vs (kvs.map (·.2))->(DS.putAll (kvs.map (fun p=>zIt p.1),vs) ps).1=(putV kvs qs).map (fun p=>zIt p.1)/\RepL K J H (DS.putAll (kvs.map (fun p=>zIt p.1),vs) ps).2 ((putV kvs qs).map (·.2))
 | [],ps,ys,e,r=>by
  cases e
  cases(show ys=[]from r)
  exact⟨[],rfl,(fun q hq=>nomatch hq),rfl,fun r=>⟨rfl,r⟩⟩
 | d::l,ps,ys,e,r=>by
  unfold DS.pairsOf at e
  split at e
  ·rename_i e';cases e'
  ·rename_i k v l' e'
   cases e'
   split at e
   ·rename_i hk
    obtain⟨ps',e1,rfl⟩:=yD.mp e
    obtain⟨y,ys',rfl,ry,rl⟩:=r
    obtain⟨qs,e2,h2,l2,h3⟩:=zLn e1 rl
    obtain⟨b,zs,rfl,tb,rz⟩:=ry
    obtain⟨x1,t1,rfl,r1,r2⟩:=rz
    obtain⟨x2,rfl,r3⟩:=zCq (ds:=[]) r2
    unfold DS.zCr at hk
    rw[xM]at hk
    cases k with
    | tup kl=>
     obtain⟨kk,rfl⟩:=zKn (show _=true from hk.1)
     obtain⟨c,ws,rfl,tc,rc⟩:=r1
     obtain rfl:=zI3 rc
     refine⟨(kk,b,c,x2)::qs,by rw[e2];rfl,fun q hq=>?_,by rw[xE,l2];rfl,fun {kvs vs} rv=>?_⟩
     ·rcases xm.mp hq with rfl|hq
      ·exact⟨tb.1,tc.1⟩
      ·exact h2 q hq
     ·obtain⟨p1,p2⟩:=zTu (f:=zIt) (fun a b=>zIs) (k:=kk) rv r3
      have:=h3 (kvs:=putK kvs kk x2) p2
      rw[<- p1]at this
      exact this
    | _=>cases hk.2
   ·cases e
  ·cases e
theorem zLl:∀(qs:List PV) (kvs:List (List Key × V)),(putV kvs qs).length<=kvs.length+qs.length
 | [],kvs=>xi _
 | q::qs,kvs=>by
  have:=zLl qs (putK kvs q.1 q.2.2.2)
  have h2:=zE9 kvs q.1 q.2.2.2
  show(putV (putK kvs q.1 q.2.2.2) qs).length<=_
  rw[xE];lia
theorem zU4 {H':Hp}:∀{qs:List PV}{ps:List (zK3 (List Key))}{kvs:List (List Key × V)}{xs:List (List Key × Addr × Value)},Paired (fun q p=>q.1=p.1/\q.2.2.1=p.2.2.1/\RelV q.2.2.2 p.2.2.2) qs ps->(∀q∈qs,H' q.2.2.1=some (.tup (q.1.map kV)))->KT H' kvs xs->KT H' (putV kvs qs) (zO6 xs ps)
 | [],_,kvs,xs,r,_,h=>by cases r;exact h
 | q::qs,_,kvs,xs,r,hq,h=>by
  cases r with
  | @cons _ p _ ps' e t=>
   have h1:=h.put q.1 (b:=q.2.2.1) (y:=q.2.2.2) (u:=p.2.2.2) (hq q (.head _)) e.2.2
   have:=zU4 (H':=H') t (fun q' hq'=>hq q' (.tail _ hq')) h1
   rw[e.1,e.2.1]at this
   show KT H' (putV (putK kvs q.1 q.2.2.2) qs) (zO6 (storedH xs p.1 p.2.2.1 p.2.2.2) ps')
   rw[e.1]
   exact this
theorem zJ1 {h:Heap}:∀{qs:List PV},(∀q∈qs,∃u',RelV q.2.2.2 u'/\IsTup h q.2.1 #[.ref q.2.2.1,u'])->∃ps:List (zK3 (List Key)),Paired (fun q p=>q.1=p.1/\q.2.2.1=p.2.2.1/\RelV q.2.2.2 p.2.2.2) qs ps/\(∀p∈ps,IsTup h p.2.1 #[.ref p.2.2.1,p.2.2.2]/\∃q∈qs,q.1=p.1/\q.2.2.1=p.2.2.1)/\ps.map (fun p=>p.2.1)=qs.map (fun q=>q.2.1)
 | [],_=>⟨[],.nil,(fun p hp=>nomatch hp),rfl⟩
 | q::qs,hq=>by
  obtain⟨ps,h1,h2,h3⟩:=zJ1 (h:=h) (qs:=qs) fun q' hq'=>hq q' (.tail _ hq')
  obtain⟨u',r,t⟩:=hq q (.head _)
  refine⟨(q.1,q.2.1,q.2.2.1,u')::ps,.cons ⟨rfl,rfl,r⟩ h1,fun p hp=>?_,by rw[xt,xt,h3]⟩
  rcases xm.mp hp with rfl|hp
  ·exact⟨t,q,.head _,rfl,rfl⟩
  ·obtain⟨a,q',hq',b⟩:=h2 p hp
   exact⟨a,q',.tail _ hq',b⟩
theorem zIq:∀{l:List Addr}{us:List Value},Vals (l.map V.ref) us->us=l.map Value.ref
 | [],_,r=>by cases r;rfl
 | a::l,_,r=>by
  rw[xt]at r
  cases r with
  | cons h t=>rw[zIq t,xt,(show _=Value.ref a from h)]
theorem zUm {P:Program}{w:World}{h h':Heap}{k:List Key}{a:Addr}(x:(tupleKind (zBj P w)).is h k a) (kp:∀o,h.get? a=some o->h'.get? a=some o):(tupleKind (zBj P w)).is h' k a:=by
 obtain⟨o,its,n,h1,r⟩:=x
 exact⟨o,its,n,kp o h1,r⟩
theorem zNm (hu:X.A.units+64<cLine) (hc:X.calm=true) (hK:X.K=K:=by rfl):zBs X (.type "dict") (cOfF K DS.zQ5):=by
 subst hK
 intro pins s σ H xs us Q I r ⟨J,S,ds,d,ha,rl,e,k⟩
 unfold DS.zQ5 at e
 split at e
 ·rename_i d0
  obtain⟨x,rfl,rx⟩:=zCq (ds:=[]) rl
  split at e
  ·rename_i ps e1
   split at e
   ·rename_i hm
    cases e
    split at e1
    ·rename_i l e2
     obtain⟨b,ys,rfl,hq,q⟩:=zJ6 ha rx e2
     obtain⟨u,rfl,ru⟩:=vals1 r
     cases ru
     obtain⟨qs,ey,hqs,ql,pa⟩:=zLn e1 q
     obtain⟨its,rv,⟨ol,n,g1,g2,g3,g4⟩,_⟩:=I.list hq
     obtain⟨ps',m1,m2,m3⟩:=zJ1 (h:=s.heap) (qs:=qs) fun q hq=>by
      obtain⟨_,its,rv,o,h1,h2,n,h3⟩:=(show ObjOk X.prog X.w H s.heap q.2.1 (.tup [.ref q.2.2.1,q.2.2.2])from I.hok _ _ (hqs q hq).1)
      obtain⟨u,u',rfl,r1,r2⟩:=vals2 rv
      cases(show u=_ from r1)
      exact⟨u',r2,o,h1,h2,n,h3⟩
     have ei:its=ps'.map fun p=>.ref p.2.1:=by
      have e3:ys=(qs.map fun q=>q.2.1).map V.ref:=by rw[ey,xP];rfl
      rw[e3]at rv
      rw[zIq rv,<- m3,xP];rfl
     have pl:ps'.length=qs.length:=(Paired.length m1).symm
     have hz:ps'.length<=sizeLine:=by rw[pl,ql];exact hm
     refine zGf (kd:=tupleKind (zBj X.prog X.w)) (I.ok.hd hc) (show X.A.units+2<cLine by nofun) zUm (ps:=ps') g1 g2 g4 g3 ⟨ol,g1,g2,n,g4⟩ (by rw[List.toList_toArray,ei]) (fun p hp=>?_) hz fun h' tk hd kp=>?_
     ·obtain⟨a1,q',hq',b1,b2⟩:=m2 p hp
      have c1:=(hqs q' hq').2
      rw[b1,b2]at c1
      exact⟨a1,zH4 I.hok c1,by obtain⟨_,_,_,z,_⟩:=zH4 I.hok c1;exact xo z⟩
     ·have fr:=I.fresh
      obtain⟨o,es,ep,f1,f2,f3,f4,f5,f6⟩:=hd
      have kt:KT (upd H s.heap.objs.size (.dT (putV [] qs))) (putV [] qs) (zO6 [] ps'):=zU4 m1 (fun q hq=>by
       rw[zAq (fun z=>by have:=(hqs q hq).2;rw[z,fr]at this;cases this)]
       exact(hqs q hq).2) .nil
      have hl:(putV [] qs).length<=sizeLine:=by
       have:=zLl qs []
       rw[v7,vK,<- pl]at this
       exact xk this hz
      have ns:(s.heap.objs.size == sysModules)=false:=by
       have:=I.big
       exact beq_false_of_ne (uf this)
      obtain⟨p1,p2⟩:=pa (kvs:=[]) (vs:=[]) rfl
      refine⟨.ref s.heap.objs.size,upd H s.heap.objs.size (.dT (putV [] qs)),I.laid (t':=tk) kp (xi _) ⟨hl,ns,_,kt,o,es,ep,f1,f2,f3,f4,f6⟩,rfl,k _ _ H ha .refl fr ⟨_,.inr ⟨rfl,_,rfl,p1,rfl⟩,p2⟩⟩
    ·cases e1
   ·cases e
  ·cases e
 ·cases e
end
end L2
namespace L2
open PySem PySem.Spec PyProof.Rows
open DS (D Store Exn Rs SR)
section
variable {X:Cx}{K:PySem.W.Frag}{J:Js}{S:Store}{H:Hp}
theorem zKa {xs:List Int}:∀(k:Nat),k<=xs.length->preSum (fun i=>xs.getD i 0) k=(xs.take k).sum
 | 0,_=>rfl
 | k+1,h=>by
  rw[preSum,zKa k (Nat.le_of_succ_le h),List.take_succ_eq_append_getElem (show k<xs.length from h),uO,List.sum_singleton,vU,xD (show k<xs.length from h)]
  rfl
theorem zTp:∀{xs:List Int},(∀x∈xs,x.natAbs<=2 ^ 50)->xs.sum.natAbs<=xs.length*2 ^ 50
 | [],_=>xR _
 | x::xs,h=>by
  have h1:=zTp (xs:=xs) fun y hy=>h y (.tail _ hy)
  have h2:=h x (.head _)
  rw[vy,xE,Nat.succ_mul]
  lia
theorem zD3 (hc:X.calm=true) (hK:X.K=K:=by rfl):zBs X (.builtin "sum") (cOf K DS.sumI):=by
 subst hK
 intro pins s σ H xs us Q I r ⟨J,S,ds,d,ha,rl,e,k⟩
 unfold DS.sumI at e
 split at e
 ·rename_i d0
  obtain⟨x,rfl,rx⟩:=zCq (ds:=[]) rl
  split at e
  ·rename_i ns e1
   split at e
   ·rename_i hm
    cases e
    unfold DS.lstI at e1
    split at e1
    ·rename_i l e2
     have el:=DS.zG0 e1
     obtain⟨b,ys,rfl,hq,q⟩:=zJ6 ha rx e2
     obtain⟨u,rfl,ru⟩:=vals1 r
     cases ru
     obtain⟨its,rv,pl,_⟩:=I.list hq
     have sz:its.toArray.size=ns.length:=by
      have h1:=q.length
      rw[el,xp]at h1
      rw[xx,<- rv.length,<- h1]
     have at_:∀(i:Nat) (v:Value),its.toArray[i]?=some v->∃t,v=.int (ns.getD i 0) t:=fun i v hv=>by
      rw[el]at q
      have hl:=q.length
      rw[xp]at hl
      have hv':its[i]?=some v:=by simpa using hv
      have hi:i<ns.length:=by rw[hl,rv.length];exact(xH.mp hv').1
      obtain⟨y,hy,ry⟩:=q.get (i:=i) (d:=.int ns[i]) (by rw[vm,xD hi];rfl)
      obtain rfl:=ry
      obtain⟨w,hw,t,ew⟩:=rv.get hy
      rw[hv']at hw
      cases hw
      exact⟨t,by rw[ew,vU,xD hi];rfl⟩
     have fit:∀z:Int,z.natAbs<=1000*2 ^ 50->InLong z:=fun z hz=>by unfold InLong;lia
     have hlt:b<s.heap.objs.size:=pl.lt
     have hne:b≠s.heap.objs.size:=xr hlt
     have W:=Walks.list (prog:=X.prog) (w:=X.w) (A:=X.A.in1) (I.ok.hd hc) s.heap.objs.size b hne its.toArray
     refine call_sum_walk (v9 pl.isList ⟨_,_,_,_,_,_,fun i=>ns.getD i 0,rfl,W,⟨⟨_,xA _ rfl,rfl,rfl⟩,pl.isList.push _⟩,fun c hm=>?_,at_,fun j hj=>?_,fun h' tk t' kp=>?_⟩)
     ·rw[vw]
      rcases xm.mp hm with z|z
      ·rw[z];exact Nat.lt_succ_self _
      ·rw[xF.mp z];exact uH hlt
     ·rw[sz]at hj
      refine⟨fit _ ?_,fit _ ?_⟩
      ·show(ns.getD j 0).natAbs<=_
       rw[vU,xD hj]
       exact xk (hm.2 _ (vJ hj)) (by decide)
      ·rw[zKa (j+1) hj]
       refine xk (zTp fun x hx=>hm.2 x (yJ hx)) (Nat.mul_le_mul_right _ ?_)
       rw[xU];have:=hm.1;lia
     ·rw[sz,zKa _ (xi _),yy]
      exact⟨.int _,H,I.kept (t':=tk) fun c o e=>kp c o (fun z=>xr (xo e) (xF.mp z)) (xn _ e),⟨t',rfl⟩,k _ H ha .refl rfl⟩
    ·cases e1
   ·cases e
  ·cases e
 ·cases e
end
end L2
namespace L2
open PySem PySem.Spec PyProof.Rows
open DS (D Store Exn Rs SR)
section
variable {X:Cx}{K:PySem.W.Frag}{J:Js}{S:Store}{H:Hp}
theorem zMd {bt:Nat->Nat->Bool}{f:Nat->Int}(le:Int->Int->Prop) (rf:∀a,le a a) (tr:∀a b c,le a b->le b c->le a c) (h1:∀i j,bt i j=true->le (f i) (f j)) (h2:∀i j,bt i j=false->le (f j) (f i)):∀(k:Nat),argBest bt k<=k/\∀i,i<=k->le (f (argBest bt k)) (f i)
 | 0=>⟨xi _,fun i hi=>by rw[Nat.le_zero.mp hi];exact rf _⟩
 | k+1=>by
  obtain⟨a,b⟩:=zMd le rf tr h1 h2 k
  unfold argBest
  split
  ·rename_i c
   refine⟨xi _,fun i hi=>?_⟩
   rcases Nat.lt_or_eq_of_le hi with z|z
   ·exact tr _ _ _ (h1 _ _ c) (b i (Nat.le_of_lt_succ z))
   ·rw[z];exact rf _
  ·rename_i c
   refine⟨Nat.le_succ_of_le a,fun i hi=>?_⟩
   rcases Nat.lt_or_eq_of_le hi with z|z
   ·exact b i (Nat.le_of_lt_succ z)
   ·rw[z];exact h2 _ _ (yv.mpr c)
theorem yA2 {p:Int->Int->Prop}{bt:Nat->Nat->Bool}(tr:∀a b c,¬ p b a->¬ p c b->¬ p c a) (as:∀a b,p a b->¬ p b a) (tot:∀a b,¬ p a b->¬ p b a->a=b) {a:Int}{r:List Int}(hb:∀i j,bt i j=true <-> p ((a::r).getD i 0) ((a::r).getD j 0)):(a::r).getD (argBest bt r.length) 0=DS.bst p a r:=by
 obtain⟨h1,h2⟩:=DS.zQw tr as r a
 obtain⟨k1,k2⟩:=zMd (bt:=bt) (f:=fun i=>(a::r).getD i 0) (fun x y=>¬ p y x) (fun x z=>as _ _ z z) (fun x y z h h'=>tr _ _ _ h h') (fun i j h=>as _ _ ((hb i j).mp h)) (fun i j h=>fun z=>by rw[(hb i j).mpr z]at h;cases h) r.length
 have kl:argBest bt r.length<(a::r).length:=Nat.lt_succ_of_le k1
 obtain⟨i,hi,e⟩:=v8.mp h1
 refine tot _ _ (fun z=>?_) fun z=>?_
 ·refine h2 _ ?_ z
  rw[vU,xD kl]
  exact vJ kl
 ·refine k2 i (Nat.le_of_lt_succ hi) ?_
  rw[vU,xD hi]
  show p (a::r)[i] _
  rw[e]
  exact z
theorem zTc {p:Int->Int->Prop}{op:CmpOp}{nm:String}(tr:∀a b c,¬ p b a->¬ p c b->¬ p c a) (as:∀a b,p a b->¬ p b a) (tot:∀a b,¬ p a b->¬ p b a->a=b) [DecidableRel p]
  (cmp:∀{x y:Int}{t u:Tok}{s:Shared}{A:Around}{Q:Value->Shared->Prop}{E:Value->Shared->Prop},Q (.bool (decide (p x y))) s->wpAny (model X.prog X.w) A (richCompare op (.int x t) (.int y u)) Q E s)
  (wk:∀{x:Value}{s:Shared}{Q:Value->Shared->Prop},wpAny (model X.prog X.w) X.A.in1 (pyIter x) (fun it s₂=>∃I fp wr n P St bt,it=.ref I/\Walks X.prog X.w X.A.in1 I fp wr n P St/\St 0 s₂.heap/\(∀b∈fp,b<s₂.heap.objs.size)/\0<n/\CmpOf X.prog X.w X.A.in1 op P bt /\
   ∀v h' tk,P (argBest bt (n-1)) v->(∀b o,b ∉ wr->s₂.heap.get? b=some o->h'.get? b=some o)->Q v { s₂ with heap:=h',toks:=tk }) X.xe s->wpAny (model X.prog X.w) X.A (call (.builtin nm) [x]) Q X.xe s)
  (hc:X.calm=true) (hK:X.K=K:=by rfl):zBs X (.builtin nm) (cOf K (DS.bstL p)):=by
 subst hK
 intro pins s σ H xs us Q I r ⟨J,S,ds,d,ha,rl,e,k⟩
 unfold DS.bstL at e
 split at e
 ·rename_i d0
  obtain⟨x,rfl,rx⟩:=zCq (ds:=[]) rl
  split at e
  ·rename_i a r' e1
   cases e
   split at e1
   ·rename_i l e2
    have el:=DS.zG0 e1
    obtain⟨b,ys,rfl,hq,q⟩:=zJ6 ha rx e2
    obtain⟨u,rfl,ru⟩:=vals1 r
    cases ru
    obtain⟨its,rv,pl,_⟩:=I.list hq
    have at_:∀(i:Nat) (v:Value),its.toArray[i]?=some v->∃t,v=.int ((a::r').getD i 0) t:=fun i v hv=>by
     rw[el]at q
     have hl:=q.length
     rw[xp]at hl
     have hv':its[i]?=some v:=by simpa using hv
     have hi:i<(a::r').length:=by rw[hl,rv.length];exact(xH.mp hv').1
     obtain⟨y,hy,ry⟩:=q.get (i:=i) (d:=.int (a::r')[i]) (by rw[vm,xD hi];rfl)
     obtain rfl:=ry
     obtain⟨w,hw,t,ew⟩:=rv.get hy
     rw[hv']at hw
     cases hw
     exact⟨t,by rw[ew,vU,xD hi];rfl⟩
    have sz:its.toArray.size=r'.length+1:=by
     have h1:=q.length
     rw[el,xp]at h1
     rw[xx,<- rv.length,<- h1];rfl
    have hlt:b<s.heap.objs.size:=by obtain⟨o,ho,_⟩:=pl.isList;exact xo ho
    have hne:b≠s.heap.objs.size:=xr hlt
    have W:=Walks.list (prog:=X.prog) (w:=X.w) (A:=X.A.in1) (I.ok.hd hc) s.heap.objs.size b hne its.toArray
    refine wk (v9 pl.isList ⟨_,_,_,_,_,_,fun i j=>decide (p ((a::r').getD i 0) ((a::r').getD j 0)),rfl,W,⟨⟨_,xA _ rfl,rfl,rfl⟩,pl.isList.push _⟩,fun c hm=>?_,by rw[sz];exact Nat.succ_pos _,fun i j vi vj s' Q' E' hi hj hQ=>?_,fun v h' tk hv kp=>?_⟩)
    ·rw[vw]
     rcases xm.mp hm with z|z
     ·rw[z];exact Nat.lt_succ_self _
     ·rw[xF.mp z];exact uH hlt
    ·obtain⟨t,rfl⟩:=at_ i vi hi
     obtain⟨t',rfl⟩:=at_ j vj hj
     exact cmp hQ
    ·obtain⟨t,rfl⟩:=at_ _ v hv
     rw[sz,Nat.add_sub_cancel,yA2 tr as tot fun i j=>yd]
     exact⟨.int _,H,I.kept (t':=tk) fun c o e=>kp c o (fun z=>xr (xo e) (xF.mp z)) (xn _ e),⟨t,rfl⟩,k _ H ha .refl rfl⟩
   ·cases e1
  ·cases e
 ·cases e
theorem zJo (hc:X.calm=true) (hK:X.K=K:=by rfl):zBs X (.builtin "min") (cOf K DS.minI):=
 zTc (op:=.Lt) (fun a b c h h'=>by nofun) (fun a b h=>by nofun) (fun a b h h'=>by nofun) (fun h=>lt_int h) (fun h=>call_min_walk h) hc hK
end
end L2
namespace L2
open PySem PySem.Spec PyProof.Rows EK
open DS (D Store Exn Rs SR lv srt dedup)
section
variable {X:Cx}{K:PySem.W.Frag}{E:XE}{e:Expr}{m:DS.EM}{p2 pos:Pos}
theorem zQ8 {stp:Expr}{m2:DS.EM}(he:DE X K E e m) (h2:DE X K E stp m2) (e2:∀env S,m2 env S=.ok (.int (-1)) S:=by intros;rfl) (hK:X.K=K:=by rfl):DE X K E (.Subscript e (.Slice none none (some stp) p2) pos) (DS.eUn DS.revT m):=by
 subst hK
 refine⟨⟨fun pins s σ H Q I hq1=>?_⟩⟩
 obtain⟨env,S,J,ha,hE,q⟩:=hq1
 refine Subscript_ (thn (he.h.h pins s σ H (fun x H1=>∃J1 S1 d0 d,AbS X.K J1 S1 H1/\RepE X.K J1 H1 env σ/\Rep X.K J1 H1 d0 x/\DS.revT S1 d0=some d/\∀v H',AbS X.K J1 S1 H'->Grow J1 H1 J1 H'->Rep X.K J1 H' d v->Q v H') I ⟨env,S,J,ha,hE,q.bind.imp fun d0 S1 J1 H1 _ a1 g1 q1 x rx=>?_⟩) fun v s1 hq1=>?_)
 ·obtain⟨c,ec,k⟩:=q1.lift
  exact⟨J1,S1,d0,c,a1,hE.grow g1,rx,ec,fun v H' h1 h2 h3=>k J1 H' h1 h2 v h3⟩
 ·obtain⟨x,H1,I1,r1,J1,S1,d0,d,a1,hE1,rx,ed,k⟩:=hq1
  have n1:∀(s:Shared) (R:Value->Shared->Prop),R .none s->wpAny (model X.prog X.w) X.A (evalPart none X.env) R X.xe s:=fun s R h=>by rw[evalPart_none];exact xh h
  refine wpAny_Slice (n1 _ _ (n1 _ _ ?_))
  rw[evalPart_some]
  refine thn (h2.h.h pins s1 σ H1 (fun y H2=>y=.int (-1)/\H2=H2/\∃g:Grow J1 H1 J1 H2,AbS X.K J1 S1 H2) I1 ⟨env,S1,J1,a1,hE1,?_⟩) fun u s2 hq1=>?_
  ·rw[e2]
   exact fun J' H' h1 g v rv=>⟨rv,rfl,by
    have ej:J'=J1:=by
     have:=g.take a1
     rw[<- h1.len]at this
     simpa using this
    subst ej
    exact⟨g,h1⟩⟩
  obtain⟨y,H2,I2,r2,ey,_,g2,a2⟩:=hq1
  subst ey
  obtain⟨t,rfl⟩:=r2
  have I4:Inv X pins σ H2 { s2 with heap:=s2.heap.push { cls:=.type "slice",data:=.fields #[.none,.none,.int (-1) t] } }:=I2.kept (t':=s2.toks) fun b ob q=>xn _ q
  have hs:(s2.heap.push { cls:=.type "slice",data:=.fields #[.none,.none,.int (-1) t] }).IsSliceOf s2.heap.objs.size .none .none (.int (-1) t):=Heap.IsSliceOf.new ..
  have rx2:=Rep.grow g2 _ _ rx
  have k2:∀v H',AbS X.K J1 S1 H'->Grow J1 H2 J1 H'->Rep X.K J1 H' d v->Q v H':=fun v H' h1 h2 h3=>k v H' h1 (g2.trans h2) h3
  refine(show wpAny (model X.prog X.w) X.A (subscriptTail e (.Slice none none (some stp) p2) v (.ref s2.heap.objs.size)) (EP X pins σ Q) X.xe { s2 with heap:=s2.heap.push { cls:=.type "slice",data:=.fields #[.none,.none,.int (-1) t] } }from ?_)
  unfold DS.revT at ed
  split at ed
  ·rename_i l
   cases ed
   obtain⟨a,xs,rfl,ta,rl⟩:=rx2
   cases r1
   obtain⟨its,r,ht,hz⟩:=I4.tuple ta.sq
   refine tail_any (ops:=[.ref a,.ref s2.heap.objs.size]) (T:="tuple") ht.typeIs vX.lookup (zEw ht hs ?_ (by rw[<- Vals.length r];exact hz)) (by with_unfolding_all rfl)
   refine⟨.ref _,_,I4.laid (t':=s2.toks) (o:=.tup xs.reverse) (fun b ob q=>xn _ q) (xi _) ⟨by rw[yG];exact hz,_,r.reverse,IsTup.new _ _⟩,rfl,k2 _ _ (a2.push (I4.hok.fresh (xi _))) (.push (I4.hok.fresh (xi _))) ⟨_,_,rfl,⟨zB1,a2.out (I4.hok.fresh (xi _))⟩,(RepL.grow (.push (I4.hok.fresh (xi _))) _ _ rl).reverse⟩⟩
  ·cases ed
end
end L2
namespace L2
open PySem PySem.Spec PyProof.Rows
open DS (D Store Exn Rs SR)
section
variable {X:Cx}{K:PySem.W.Frag}
theorem zE4 (K:PySem.W.Frag):PySem.W.kitOne K (.type "tuple") (.type "tuple")=some true:=by first|rfl|(unfold PySem.W.kitOne;rfl)|(unfold PySem.W.kitOne;simp;rfl)
theorem zN2 (K:PySem.W.Frag):PySem.W.kitOne K (.type "int") (.type "int")=some true:=by first|rfl|(unfold PySem.W.kitOne;rfl)|(unfold PySem.W.kitOne;simp;rfl)
theorem zKm (K:PySem.W.Frag):PySem.W.kitOne K (.type "int") (.type "bool")=some false:=by first|rfl|(unfold PySem.W.kitOne;rfl)|(unfold PySem.W.kitOne;simp;rfl)
theorem zJ9 (K:PySem.W.Frag):PySem.W.kitOne K (.type "bool") (.type "bool")=some true:=by first|rfl|(unfold PySem.W.kitOne;rfl)|(unfold PySem.W.kitOne;simp;rfl)
theorem zQt (hK:X.K=K:=by rfl):zBs X (.builtin "isinstance") (cOf K DS.isiQ):=by
 subst hK
 intro pins s σ H xs us Q I r ⟨J,S,ds,d,ha,rl,e,k⟩
 have fin:∀{b:Bool},(∀v H',AbS X.K J S H'->Grow J H J H'->Rep X.K J H' (.bl b) v->Q v H')->∀tk,EP X pins σ Q (.bool b) { s with toks:=tk }:=fun k tk=>⟨.bl _,H,I.tok _,rfl,k _ H ha .refl rfl⟩
 unfold DS.isiQ at e
 split at e
 ·rename_i d T
  obtain⟨b,eb,rfl⟩:=yD.mp e
  obtain⟨x,y,rfl,rx,ry⟩:=zHl rl
  obtain⟨u,w,rfl,ru,rw⟩:=vals2 r
  obtain rfl:=ry
  cases rw
  have one:∀{c:Prop}[Decidable c] {v:Bool},(if c then some v else none)=some b->c/\v=b:=fun {c} _ {v} h=>by
   by_cases q:c
   ·rw[xf q]at h;cases h;exact⟨q,rfl⟩
   ·rw[xg q]at h;cases h
  cases d with
  | tup l=>
   obtain⟨rfl,rfl⟩:=one eb
   obtain⟨a,ys,rfl,t,_⟩:=rx
   cases ru
   obtain⟨_,_,_,p⟩:=(show ObjOk X.prog X.w H s.heap a (.tup ys)from I.hok a _ t.1)
   obtain⟨o,h1,h2,_⟩:=p
   exact yz PySem.W.kitx_tuple I.kIn ⟨o,h1,h2⟩ (zE4 X.K) (fun z=>nomatch z) (fin k)
  | ktup l=>
   obtain⟨rfl,rfl⟩:=one eb
   obtain⟨a,ys,rfl,⟨o,its,n,lk,hc,_⟩,_⟩:=rx
   cases ru
   exact yz PySem.W.kitx_tuple I.kIn ⟨o,I.kIn _ _ lk,hc⟩ (zE4 X.K) (fun z=>nomatch z) (fin k)
  | int n=>
   obtain rfl:=rx
   obtain⟨t,rfl⟩:=ru
   unfold DS.isq at eb
   dsimp only at eb
   by_cases q:T="int"
   ·rw[xf q]at eb
    cases eb
    subst q
    exact yz PySem.W.kitx_int I.kIn True.intro (zN2 X.K) (fun z=>nomatch z) (fin k)
   ·rw[xg q]at eb
    obtain⟨rfl,rfl⟩:=one eb
    exact yz PySem.W.kitx_int I.kIn True.intro (zKm X.K) (fun z=>nomatch z) (fin k)
  | bl n=>
   obtain⟨rfl,rfl⟩:=one eb
   obtain rfl:=rx
   cases ru
   exact yz PySem.W.kitx_bool I.kIn True.intro (zJ9 X.K) (fun z=>nomatch z) (fin k)
  | _=>cases eb
 ·cases e
end
end L2
namespace L2
open PySem PySem.Spec PyProof.Rows
open DS (D Store Exn Rs SR)
section
variable {X:Cx}{K:PySem.W.Frag}
theorem zD0:OpR X (compareOp .Eq) (r2Of K DS.eqI):=by
 intro pins s σ H x y v u Q I rx ry ⟨J,S,d1,d2,d,ha,r1,r2,e,k⟩
 unfold DS.eqI at e
 split at e
 ·cases e
  obtain rfl:=r1
  obtain rfl:=r2
  obtain⟨t,rfl⟩:=rx
  obtain⟨t',rfl⟩:=ry
  exact eq_int ⟨.bl _,H,I,rfl,k _ H ha .refl rfl⟩
 ·cases e
theorem zLo:OpR X (compareOp .Lt) (r2Of K DS.ltI):=by
 intro pins s σ H x y v u Q I rx ry ⟨J,S,d1,d2,d,ha,r1,r2,e,k⟩
 unfold DS.ltI at e
 split at e
 ·cases e
  obtain rfl:=r1
  obtain rfl:=r2
  exact yB4 pins s σ H _ _ v u Q I rx ry ⟨_,_,rfl,rfl,k _ H ha .refl rfl⟩
 ·cases e
end
end L2
namespace L2
open PySem PySem.Spec PyProof.Rows EK
open DS (D Store Exn Rs SR lv)
section
open Classical
variable {X:Cx}{K:PySem.W.Frag}{J:Js}{S:Store}{H:Hp}{d1 d2:D}
theorem zR2 {h:Heap}{n:Nat}{d1:D}{l:List D}{us:List Value}(al:A2 (Ek h n) l us):us.any (fun z=>decide (Ek h n d1 z))=true <-> d1∈l:=by
 induction al with
 | nil=>simp
 | @cons d u l us r _ ih=>
  rw[List.any_cons,Bool.or_eq_true,ih,yd,xm]
  exact or_congr ⟨fun q=>q.inj r,fun e=>e ▸ r⟩ Iff.rfl
theorem A2.at {α β:Type}{R:α->β->Prop}{l:List α}{m:List β}(h:A2 R l m):∀(i:Nat) (b:β),m[i]?=some b->∃a,l[i]?=some a/\R a b:=by
 induction h with
 | nil=>intro i b e;cases e
 | cons r _ ih=>
  intro i b e
  cases i with
  | zero=>cases e;exact⟨_,rfl,r⟩
  | succ i=>exact ih i b e
theorem zPa {s:Shared}{A:Around}{n:Nat}{u:Value}{l:List D}{us:List Value}(hu:A.units+64<cLine) (hn:n<=5) (q1:Ek s.heap n d1 u) (al:A2 (Ek s.heap n) l us):∀z∈us,SeqAt.EqAt A.in1 s z u (decide (Ek s.heap n d1 z)):=fun z hz=>by
 obtain⟨i,ei⟩:=yE.mp hz
 obtain⟨d,_,r⟩:=A2.at al i z ei
 refine fun prog w E Q hq=>zNc n r q1 (by show A.units+1+n<cLine;lia) ?_
 rw[show decide (d=d1)=decide (Ek s.heap n d1 z)from xI.mpr ⟨fun e=>e ▸ r,fun q=>r.inj q⟩]
 exact hq
theorem zU5 {pins:List (Addr × Obj)}{σ:St}{s:Shared}{x y:V}{u w:Value}{Q:VK}{b:Bool}(neg:Bool) (hu:X.A.units+64<cLine) (I:Inv X pins σ H s) (rx:RelV x u) (ry:RelV y w) (ha:AbS X.K J S H) (r1:Rep X.K J H d1 x) (r2:Rep X.K J H d2 y) (e:DS.inKO S d1 d2=some b)
  (k:Q (.bl (if neg then !b else b)) H):wpAny (model X.prog X.w) X.A (compareOp (if neg then .NotIn else .In) u w) (EP X pins σ Q) X.xe s:=by
 have hu1:X.A.units+1<cLine:=by nofun
 have seq:∀(l:List D),DS.items S d2=some l->DS.lvs (d1::l)->(b=true <-> d1∈l)->wpAny (model X.prog X.w) X.A (compareOp (if neg then .NotIn else .In) u w) (EP X pins σ Q) X.xe s:=fun l e1 hl eb=>by
  obtain⟨n,hn,hl⟩:=hl
  obtain⟨a,xs,rfl,hq,rl⟩:=zFf ha r2 e1
  cases ry
  have q1:=zQ0 (K:=X.K) (J:=J) I n (hl _ (.head _)) r1 rx
  rcases hq with hq|hq
  ·obtain⟨its,r,pl,hz⟩:=I.list hq
   have al:=zG5 (K:=X.K) (J:=J) I (fun d hd=>hl d (.tail _ hd)) rl r
   have ea:its.toArray.any (fun z=>decide (Ek s.heap n d1 z))=b:=by rw[u5,eb,<- zR2 al];simp
   have hg:=zPa hu hn q1 al
   cases neg with
   | true=>exact SeqAt.notIn_listAt _ pl.isList (fun z hz=>hg z (by simpa using hz)) ⟨.bl _,H,I,rfl,by rw[ea];exact k⟩
   | false=>exact SeqAt.in_listAt _ pl.isList (fun z hz=>hg z (by simpa using hz)) ⟨.bl _,H,I,rfl,by rw[ea];exact k⟩
  ·obtain⟨its,r,pl,hz⟩:=I.tuple hq
   have al:=zG5 (K:=X.K) (J:=J) I (fun d hd=>hl d (.tail _ hd)) rl r
   have ea:its.toArray.any (fun z=>decide (Ek s.heap n d1 z))=b:=by rw[u5,eb,<- zR2 al];simp
   have hg:=zPa hu hn q1 al
   cases neg with
   | true=>exact SeqAt.notIn_tupleAt _ pl (fun z hz=>hg z (by simpa using hz)) ⟨.bl _,H,I,rfl,by rw[ea];exact k⟩
   | false=>exact SeqAt.in_tupleAt _ pl (fun z hz=>hg z (by simpa using hz)) ⟨.bl _,H,I,rfl,by rw[ea];exact k⟩
 unfold DS.inKO at e
 split at e
 ·rename_i l e1
  split at e
  ·rename_i h;cases e;exact seq l (zCd (.inl e1)) h yd
  ·cases e
 ·rename_i l e1
  split at e
  ·rename_i h;cases e;exact seq l (zCd (.inr e1)) h yd
  ·cases e
 ·rename_i t ks vs e1
  split at e
  ·rename_i hk
   cases e
   obtain⟨a,o,xs,rfl,he,q,rl⟩:=zQb ha r2 e1
   cases ry
   rcases zQ6 he q rl r1 hk with⟨g,h,_⟩|⟨w,dv,g,h,_⟩
   ·rw[xu h]at k
    cases neg with
    | true=>exact zQd hu1 I g rx fun s' I'=>⟨.bl _,H,I',rfl,k⟩
    | false=>exact d_in hu1 I g rx fun s' I'=>⟨.bl _,H,I',rfl,k⟩
   ·rw[xv h]at k
    cases neg with
    | true=>exact zQd hu1 I g rx fun s' I'=>⟨.bl _,H,I',rfl,k⟩
    | false=>exact d_in hu1 I g rx fun s' I'=>⟨.bl _,H,I',rfl,k⟩
  ·cases e
 ·cases e
theorem zLp (hu:X.A.units+64<cLine) (hK:X.K=K:=by rfl):OpR X (compareOp .In) (r2Of K DS.inK):=by
 subst hK
 intro pins s σ H x y v u Q I rx ry ⟨J,S,d1,d2,d,ha,r1,r2,e,k⟩
 unfold DS.inK at e
 cases e1:DS.inKO S d1 d2 with
 | none=>rw[e1]at e;cases e
 | some b=>rw[e1]at e;cases e;exact zU5 false hu I rx ry ha r1 r2 e1 (k _ H ha .refl rfl)
theorem zP3 (hu:X.A.units+64<cLine) (hK:X.K=K:=by rfl):OpR X (compareOp .NotIn) (r2Of K DS.zH0):=by
 subst hK
 intro pins s σ H x y v u Q I rx ry ⟨J,S,d1,d2,d,ha,r1,r2,e,k⟩
 unfold DS.zH0 at e
 cases e1:DS.inKO S d1 d2 with
 | none=>rw[e1]at e;cases e
 | some b=>rw[e1]at e;cases e;exact zU5 true hu I rx ry ha r1 r2 e1 (k _ H ha .refl rfl)
theorem yA7 {l m:List D}:((List.range (min l.length m.length)).all (fun j=>decide (l[j]?=m[j]?)) && l.length == m.length)=decide (l=m):=by
 by_cases c:l=m
 ·subst c;simp
 ·rw[xu c]
  refine yv.mpr fun z=>c ?_
  rw[xM,vS]at z
  have hl:l.length=m.length:=by simpa using z.2
  refine List.ext_getElem? fun i=>?_
  by_cases hi:i<l.length
  ·exact uw (z.1 i (vq.mpr (by nofun)))
  ·rw[vT (by nofun),vT (by nofun)]
theorem zDj (hu:X.A.units+64<cLine) (hK:X.K=K:=by rfl):OpR X (compareOp .NotEq) (r2Of K DS.neK):=by
 subst hK
 intro pins s σ H x y v u Q I rx ry ⟨J,S,d1,d2,d,ha,r1,r2,e,k⟩
 unfold DS.neK at e
 split at e
 ·cases e
  obtain rfl:=r1
  obtain rfl:=r2
  obtain⟨t,rfl⟩:=rx
  obtain⟨t',rfl⟩:=ry
  exact ne_int ⟨.bl _,H,I,rfl,k _ H ha .refl rfl⟩
 ·cases e
  obtain rfl:=r1
  obtain rfl:=r2
  cases rx
  cases ry
  exact SeqAt.RcNeAt.bool_bool _ _ _ _ _ _ ⟨.bl _,H,I,by rw[Bool.beq_eq_decide_eq];exact rfl,k _ H ha .refl rfl⟩
 ·cases e
  obtain rfl:=r1
  obtain rfl:=r2
  obtain⟨t,rfl⟩:=rx
  obtain⟨t',rfl⟩:=ry
  exact SeqAt.RcNeAt.str_str _ _ _ _ _ _ _ _ ⟨.bl _,H,I,rfl,k _ H ha .refl rfl⟩
 ·rename_i l m
  split at e
  ·rename_i hs
   cases e
   obtain⟨n,hn,hl⟩:=hs
   obtain⟨a,xs,rfl,t1,q1⟩:=r1
   obtain⟨b,ys,rfl,t2,q2⟩:=r2
   cases rx
   cases ry
   obtain⟨its,va,ta,_⟩:=I.tuple t1.sq
   obtain⟨jts,vb,tb,_⟩:=I.tuple t2.sq
   have al:=zG5 (K:=X.K) (J:=J) I (fun d hd=>hl d (vN _ hd)) q1 va
   have bl:=zG5 (K:=X.K) (J:=J) I (fun d hd=>hl d (vc _ hd)) q2 vb
   refine SeqAt.RcNeAt.tuples (A:=X.A) (e:=fun j=>decide (l[j]?=m[j]?)) (show s.heap.IsTuple a its.toArray from ta) (show s.heap.IsTuple b jts.toArray from tb) (by nofun) (fun j h1 h2=>?_) _ _ _ _ ?_
   ·simp only[xx]at h1 h2
    simp only[List.getElem_toArray]
    obtain⟨d,ed,rd⟩:=A2.at al j _ (xD h1)
    obtain⟨d',ed',rd'⟩:=A2.at bl j _ (xD h2)
    rw[ed,ed',show decide (some d=some d')=decide (d=d')from xI.mpr ⟨xJ,fun z=>by rw[z]⟩]
    exact fun prog w E Q hq=>zNc n rd rd' (by show X.A.units+1+n<cLine;lia) hq
   ·simp only[xx]
    rw[<- al.length,<- bl.length,yA7]
    exact⟨.bl _,H,I,rfl,k _ H ha .refl rfl⟩
  ·cases e
 ·cases e
end
end L2
namespace L2
open PySem PySem.Spec PyProof.Rows EK TU
open TS (sObj zFw adr ordW zEd zCz zK9 Tab.ft)
open DS (D Store Exn Rs SR lv srt dedup)
section
variable {X:Cx}{K:PySem.W.Frag}{E:XE}{J:Js}{S:Store}{H:Hp}{d d1 d2:D}{v:V}{pins:List (Addr × Obj)}{σ:St}{s:Shared}
theorem zW5 {A:Around}{EE:Value->Shared->Prop}{dp:Nat}{l:List D}{a:Addr}{ys:List V}{Q:Value->Shared->Prop}(I:Inv X pins σ H s) (hh:A.handled=none) (hu:A.units+20<cLine) (hq:Rd H a (.lst ys)) (rl:RepL K J H l ys) (hdp:dp+1<=6) (hl:∀x∈l,lv (dp+1) x) (hz:l.length<=299)
  (h:∀(h':Heap) (tk:Nat) (es:Array (Int × Value)) (κ:Addr->D),IsS dp κ h' s.heap.objs.size es (zFw X.w)->es.size<=l.length->SGood K J H κ es l->(∀b o,s.heap.get? b=some o->h'.get? b=some o)->Q (.ref s.heap.objs.size) { s with heap:=h',toks:=tk }):
  wpAny (model X.prog X.w) A (call (.type "set") [.ref a]) Q EE s:=by
 obtain⟨z,its,c,rv,_,ho⟩:=I.lstR hq
 have hk:=zG5 (J:=J) (K:=K) I hl rl rv
 have key:∀u∈its,∃b d x,u=.ref b/\d∈l/\kd s.heap (dp+1) (.ref b)=d/\Ek s.heap (dp+1) d (.ref b)/\Rep K J H d x/\RelV x u:=fun u hm=>by
  obtain⟨d,x,md,rx,rq⟩:=zOh rl rv u hm
  have q:=zQ0 (K:=K) (J:=J) I (dp+1) (hl d md) rx rq
  have q0:=q
  obtain⟨ds,b,ob,items,k,rfl,rfl,_⟩:=q
  exact⟨b,_,x,rfl,md,zKo q0,q0,rx,rq⟩
 have post:∀(h':Heap) (tk:Nat) (es:Array (Int × Value)),IsS dp (fun b=>kd s.heap (dp+1) (.ref b)) h' s.heap.objs.size es (zFw X.w)->es.size<=its.toArray.size->(∀e∈es.toList,e.2∈its.toArray.toList)->(∀v∈its.toArray.toList,∃e∈es.toList,kv (fun b=>kd s.heap (dp+1) (.ref b)) e=(fun b=>kd s.heap (dp+1) (.ref b)) (adr v))->
   (∀b o,b<s.heap.objs.size->s.heap.get? b=some o->h'.get? b=some o)->Q (.ref s.heap.objs.size) { s with heap:=h',toks:=tk }:=fun h' tk es i1 z1 m1 cv k1=>by
  refine h h' tk es _ i1 (by rw[hk.length];simpa using z1) ⟨fun d=>?_,fun e he=>?_⟩ fun b o e=>k1 b o (xo e) e
  ·constructor
   ·intro hm
    obtain⟨e,he,rfl⟩:=xq.mp hm
    obtain⟨b,d,x,eb,md,ek,_,_,_⟩:=key e.2 (by simpa using m1 e he)
    unfold kv
    rw[eb]
    show kd s.heap (dp+1) (.ref b)∈l
    rw[ek];exact md
   ·intro hm
    obtain⟨u,hu',q⟩:=hk.mem_l d hm
    obtain⟨e,he,ek⟩:=cv u (by simpa using hu')
    refine xq.mpr ⟨e,he,ek.trans ?_⟩
    have q0:=q
    obtain⟨ds,b,ob,items,k,rfl,rfl,_⟩:=q
    exact zKo q0
  ·obtain⟨b,d,x,eb,md,ek,_,rx,rq⟩:=key e.2 (by simpa using m1 e he)
   refine⟨x,?_,rq⟩
   unfold kv
   rw[eb]
   show Rep K J H (kd s.heap (dp+1) (.ref b)) x
   rw[ek];exact rx
 have kk:∀v∈its.toArray.toList,∃b,v=.ref b/\EA s.heap dp (kd s.heap (dp+1) (.ref b)) b:=fun v hv=>by
  obtain⟨b,d,x,eb,md,ek,q,_,_⟩:=key v (by simpa using hv)
  exact⟨b,eb,by rw[ek];exact q⟩
 have sz:its.toArray.size<=299:=by simpa[<- hk.length]using hz
 exact zRi (κ:=fun b=>kd s.heap (dp+1) (.ref b)) (items:=its.toArray) hh ⟨_,ho,rfl,c,rfl⟩ (by nofun) hu sz kk post
end
section
variable {X:Cx}{K:PySem.W.Frag}{E:XE}
theorem zUb {e:Expr}{m:DS.EM}{p p2 pos pos2:Pos}(hc:X.calm=true) (hu:X.A.units+64<cLine) (he:DE X K E e m) (hgs:Gl X "sorted") (hms:X.mg "sorted"=none) (hgt:Gl X "set") (hmt:X.mg "set"=none) (h:nst e=true:=by rfl) (hK:X.K=K:=by rfl):
  DF X K E (.Call (.Name "sorted" p) [.Call (.Name "set" p2) [e] [] pos2] [] pos) (DS.eUn DS.ssK m):=by
 subst hK
 refine⟨⟨fun pins s σ H Q I hq1=>?_⟩⟩
 obtain⟨env,S,J,ha,hE,q⟩:=hq1
 have hs:starEach [e] X.env=[(false,eval e X.env)]:=zBw h
 have hs2:starEach [Expr.Call (.Name "set" p2) [e] [] pos2] X.env=[(false,eval (.Call (.Name "set" p2) [e] [] pos2) X.env)]:=rfl
 refine uE (zE3 I hgs hms PyProof.Rows.boot_sorted (PyProof.Rows.callWith_builtin1 ?_ hs2 rfl))
 rw[hs2]
 refine(show wpAny _ _ (spliced ((false,eval (.Call (.Name "set" p2) [e] [] pos2) X.env)::backTo pos [])) _ _ s from uV ?_)
 refine uE (zE3 I hgt hmt PyProof.Rows.boot_set (uD ?_ hs rfl))
 rw[hs]
 refine(show wpAny _ _ (spliced ((false,eval e X.env)::backTo pos2 [])) _ _ s from uV ?_)
 refine thn (he.h.h pins s σ H (fun x H1=>∃J1 S1 d0 d,AbS X.K J1 S1 H1/\Rep X.K J1 H1 d0 x/\DS.ssK S1 d0=some d/\∀p o,H1 p=none->ObD X.K J1 H1 d o->Q (.ref p) (upd H1 p o)) I ⟨env,S,J,ha,hE,q.bind.imp fun d0 S1 J1 H1 _ a1 g1 q1 x rx=>?_⟩) fun v s1 hq1=>?_
 ·obtain⟨c,ec,k⟩:=q1.lift
  exact⟨J1,S1,d0,c,a1,rx,ec,k J1 H1 a1 .refl⟩
 ·obtain⟨x,H1,I1,r1,J1,S1,d0,d,a1,rx,ed,k⟩:=hq1
  refine uU ?_
  unfold DS.ssK at ed
  cases e1:DS.litems S1 d0 with
  | none=>rw[e1]at ed;cases ed
  | some l=>
   rw[e1]at ed
   dsimp only at ed
   split at ed
   ·rename_i hs
    cases ed
    obtain⟨hz,n,hn,hl⟩:=hs
    obtain⟨a,ys,rfl,hq,q⟩:=zCg a1 rx e1
    cases r1
    refine zW5 (K:=X.K) (J:=J1) I1 (I.ok.hd hc) (by nofun) hq q hn hl (by nofun) fun h1 tk1 es κ i1 z1 g1 k1=>uU ?_
    refine zUq (K:=X.K) (J:=J1) (s:={ s1 with heap:=h1,toks:=tk1 }) (s1:=s1) I1 (I.ok.hd hc) (by nofun) i1 hn k1 rfl (xi _) (by nofun) g1 hl fun L zs hL r=>k L _ hL ⟨zs,rfl,r⟩
   ·cases ed
end
end L2
namespace DS
open PySem (Str)
noncomputable section
open Classical
theorem zH5 {n:Nat}:∀(S:Store),keeps n S S
 | []=>trivial
 | _::r=>⟨.inl rfl,zH5 r⟩
theorem zLx {n:Nat}:∀{S S':Store},S.length=S'.length->(∀(i:Nat) (d:D),S'[i]?=some d->S[i]?=some d\/d.low n=true)->keeps n S S'
 | [],_,_,_=>trivial
 | a::r,[],e,_=>by simp at e
 | a::r,b::t,e,h=>⟨by
   rcases h 0 b rfl with q|q
   ·exact .inl (by simpa using q)
   ·exact .inr q,zLx (by simpa using e) fun i d q=>by simpa using h (i+1) d (by simpa using q)⟩
theorem zSy {S:Store}{d:D}(h:d.low S.length=true):fin S d S=.ok d S:=by
 unfold fin
 rw[xf (zH5 S),xf h,yy]
theorem zZt {S S':Store}{d:D}(e:S.length=S'.length) (k:∀(i:Nat) (d:D),S'[i]?=some d->S[i]?=some d\/d.low S.length=true) (h:d.low S.length=true):fin S d S'=.ok d S':=by
 unfold fin
 rw[xf (zLx e k),xf h,e,yy]
theorem atN {l:List D}{i:Int}{k:Nat}{d:D}(h:i=(k:Int)) (e:l[k]?=some d):atL l i=some d:=by
 obtain⟨hk,_⟩:=xH.mp e
 unfold atL ixN
 rw[xf (by nofun),xf (by nofun)]
 show l[i.toNat]?=some d
 rw[show i.toNat=k by nofun];exact e
theorem atL0 {d:D}{l:List D}:atL (d::l) 0=some d:=atN (k:=0) rfl rfl
theorem atL1 {d e:D}{l:List D}:atL (d::e::l) 1=some e:=atN (k:=1) rfl rfl
theorem atL2 {d e f:D}{l:List D}:atL (d::e::f::l) 2=some f:=atN (k:=2) rfl rfl
theorem atL3 {d e f g:D}{l:List D}:atL (d::e::f::g::l) 3=some g:=atN (k:=3) rfl rfl
theorem ixT {S:Store}{l:List D}{i:Int}:ixD S (.tup l) (.int i)=atL l i:=rfl
theorem ixL {S:Store}{l:List D}{i:Int}:ixD S (.lst l) (.int i)=atL l i:=rfl
theorem zPm {S:Store}{l:List D}:items S (.tup l)=some l:=rfl
theorem zPn {S:Store}{l:List D}:items S (.lst l)=some l:=rfl
theorem zSl {S:Store}{l:List D}:look S (.tup l)=some (.tup l):=rfl
theorem zSm {S:Store}{l:List D}:look S (.lst l)=some (.lst l):=rfl
theorem zSn {S:Store}{i:Int}:look S (.int i)=some (.int i):=rfl
theorem zW6 {S:Store}{b:Bool}:look S (.bl b)=some (.bl b):=rfl
theorem zFu {S:Store}{a b:Int}(h:sm a/\sm b):mulD S (.int a) (.int b)=some (.int (a*b)):=xf h
end
end DS
local macro_rules | `(tactic| simp_arith [$ls,*]) => `(tactic| simp only [DS.sSeq, DS.sSet, DS.sRet, DS.yAi, DS.zAv, DS.sIf, DS.sUnp, DS.zE1, DS.sPar, DS.zOc, DS.eVar, DS.eC, DS.eOp, DS.eUn, DS.aNil, DS.zA0, DS.eTup, DS.eLst, DS.eCB, DS.zAg, DS.eSl, DS.pNo, DS.pYes, DS.asI, DS.asB, DS.tB, DS.tAnd, DS.tOr, DS.tNot, DS.tYes, DS.eAnd, DS.eOr, DS.eNot, DS.eIf, DS.Rs.bind_ok, DS.Rs.then_ok, DS.zAs, DS.zH3, DS.gName, DS.gTup, DS.gAll, DS.zPm, DS.zPn, DS.zSl, DS.zSm, DS.zSn, DS.zW6, vL, Option.map_none, uI, yL, List.set_cons_zero, List.set_cons_succ, xE, v7, xt, vf, List.replicate, yq, ur, vK, Nat.reduceAdd, Nat.reduceSub, Nat.reduceLT, Nat.reduceEqDiff, xj, xV, DS.addD, DS.subD, DS.ixT, DS.ixL, DS.atL0, DS.atL1, DS.atL2, DS.atL3, uN, Bool.not_false, vo, reduceIte, $ls,*])
namespace DS
open PySem (Str)
noncomputable section
open Classical
noncomputable abbrev zEv:D:=.str (Str.ofString "seed")
noncomputable abbrev kNum:D:=.str (Str.ofString "number")
noncomputable abbrev zFy:D:=.str (Str.ofString "left")
theorem zO3 {a b:String}(h:(Str.ofString a).cps≠(Str.ofString b).cps):D.str (Str.ofString a)≠D.str (Str.ofString b):=fun e=>h (by injection e with e;rw[e])
theorem ne1:zEv≠kNum:=zO3 (by decide +kernel)
theorem ne2:zEv≠zFy:=zO3 (by decide +kernel)
theorem ne3:kNum≠zFy:=zO3 (by decide +kernel)
noncomputable def zF0 (seed num:Int) (m:Nat):D:=.dct false [zEv,kNum,zFy] [.int seed,.int num,.ref m]
structure DealAt (S:Store) (n m:Nat) (seed num:Int) (left:List Int):Prop where
 d:S[n]?=some (zF0 seed num m)
 l:S[m]?=some (.lst (left.map D.int))
 ne:n≠m
 lo:0<=seed
 hi:seed<2147483647
section
variable {S:Store}{n m:Nat}{seed num:Int}{left:List Int}
theorem zKp (h:DealAt S n m seed num left):ixD S (.ref n) zEv=some (.int seed):=by
 unfold ixD look
 simp only[h.d]
 simp only[zF0]
 rw[xf (show zCr false zEv=true from rfl),look2,xf rfl]
theorem zPj (h:DealAt S n m seed num left):ixD S (.ref n) kNum=some (.int num):=by
 unfold ixD look
 simp only[h.d]
 simp only[zF0]
 rw[xf (show zCr false kNum=true from rfl),look2,xg ne1,look2,xf rfl]
theorem zPk (h:DealAt S n m seed num left):ixD S (.ref n) zFy=some (.ref m):=by
 unfold ixD look
 simp only[h.d]
 simp only[zF0]
 rw[xf (show zCr false zFy=true from rfl),look2,xg ne2,look2,xg ne3,look2,xf rfl]
theorem zOl (h:DealAt S n m seed num left) (x:Int):putN S (.ref n) kNum (.int x)=some (S.set n (zF0 seed x m)):=by
 unfold putN
 simp only[h.d]
 simp only[zF0]
 rw[xf ⟨rfl,by decide⟩]
 unfold put2
 rw[xf (by simp)]
 dsimp only
 rw[repl2,xg ne1,repl2,xf rfl,repl2,xg (xw ne3),repl2]
 all_goals simp
theorem zRn (h:DealAt S n m seed num left) (x:Int):putN S (.ref n) zEv (.int x)=some (S.set n (zF0 x num m)):=by
 unfold putN
 simp only[h.d]
 simp only[zF0]
 rw[xf ⟨rfl,by decide⟩]
 unfold put2
 rw[xf (by simp)]
 dsimp only
 rw[repl2,xf rfl,repl2,xg (xw ne1),repl2,xg (xw ne2),repl2]
 all_goals simp
theorem DealAt.lt (h:DealAt S n m seed num left):n<S.length:=(xH.mp h.d).1
theorem DealAt.ltm (h:DealAt S n m seed num left):m<S.length:=(xH.mp h.l).1
theorem DealAt.set_num (h:DealAt S n m seed num left) (x:Int):DealAt (S.set n (zF0 seed x m)) n m seed x left:=⟨by rw[vF h.lt],by rw[xO h.ne];exact h.l,h.ne,h.lo,h.hi⟩
theorem DealAt.set_seed (h:DealAt S n m seed num left) (x:Int) (h1:0<=x) (h2:x<2147483647):DealAt (S.set n (zF0 x num m)) n m x num left:=⟨by rw[vF h.lt],by rw[xO h.ne];exact h.l,h.ne,h1,h2⟩
theorem DealAt.set_left (h:DealAt S n m seed num left) (l:List Int):DealAt (S.set m (.lst (l.map D.int))) n m seed num l:=⟨by rw[xO (xw h.ne)];exact h.d,by rw[vF h.ltm],h.ne,h.lo,h.hi⟩
structure Only (n m:Nat) (S S':Store):Prop where
 len:S'.length=S.length
 at_:∀k,k≠n->k≠m->S'[k]?=S[k]?
theorem Only.refl:Only n m S S:=⟨rfl,fun _ _ _=>rfl⟩
theorem Only.trans {S' S'':Store}(a:Only n m S S') (b:Only n m S' S''):Only n m S S'':=⟨b.len.trans a.len,fun k h1 h2=>(b.at_ k h1 h2).trans (a.at_ k h1 h2)⟩
theorem Only.set1 (d:D):Only n m S (S.set n d):=⟨by simp,fun k h1 _=>xO (xw h1)⟩
theorem Only.set2 (d:D):Only n m S (S.set m d):=⟨by simp,fun k _ h1=>xO (xw h1)⟩
noncomputable abbrev zNo:TM:=(tAnd (tB (eOp eqI (eOp ixD (eVar 0) (eC kNum)) (eC (.int 0)))) (tB (eOp gtD (eCB lenB (zA0 (eOp ixD (eVar 0) (eC zFy)) aNil)) (eC (.int 0)))))
noncomputable abbrev zNs:SM:=(sPut putN (eVar 0) (eC kNum) (eMt "list" popM (eOp ixD (eVar 0) (eC zFy)) aNil))
theorem zJm {S:Store}{num:Int}{left:List Int}(env:Env) (he:env[0]?=some (some (.ref n))) (h:DealAt S n m seed num left):zNo env S=.ok false S\/∃ls x,left=ls++[x]/\zNo env S=.ok true S/\zNs env S=.nx env ((S.set m (.lst (ls.map D.int))).set n (zF0 seed x m)):=by
 have e0:eVar 0 env S=.ok (.ref n) S:=by unfold eVar;rw[he]
 have el:look S (.ref m)=some (.lst (left.map D.int)):=h.l
 have c1:tB (eOp eqI (eOp ixD (eVar 0) (eC kNum)) (eC (.int 0))) env S=.ok (decide (num=0)) S:=by simp only[tB,eOp,eC,e0,Rs.bind_ok,zPj h,zAs,zWt,asB]
 have c2:tB (eOp gtD (eCB lenB (zA0 (eOp ixD (eVar 0) (eC zFy)) aNil)) (eC (.int 0))) env S=.ok (decide ((0:Int)<(left.map D.int).length)) S:=by simp only[tB,eOp,eC,eCB,zA0,aNil,e0,Rs.bind_ok,zPk h,zAs,lenB,el,gtD,asB]
 unfold zNo tAnd
 rw[c1,Rs.bind_ok]
 by_cases h0:num=0
 ·rw[xv h0,xf rfl,c2]
  by_cases hl:left=[]
  ·subst hl
   exact .inl rfl
  ·obtain⟨ls,x,rfl⟩:∃ls x,left=ls++[x]:=⟨left.dropLast,left.getLast hl,(yM hl).symm⟩
   refine .inr ⟨ls,x,rfl,by rw[xv (by simp)],?_⟩
   have ty:tyD S (.ref m)=some "list":=by unfold tyD;rw[el]
   have pm:popM S (.ref m) []=some (.int x,S.set m (.lst (ls.map D.int))):=by
    unfold popM
    simp only[h.l]
    simp
   have e1:eVar 0 env (S.set m (.lst (ls.map D.int)))=.ok (.ref n) (S.set m (.lst (ls.map D.int))):=by unfold eVar;rw[he]
   simp only[zNs,sPut,eMt,eOp,aNil,eC,e0,Rs.bind_ok,Rs.then_ok,zAs,zPk h,ty,xj,pm,zH3,e1,zOl (h.set_left ls)]
 ·rw[xu h0,xg (by decide)]
  exact .inl rfl
theorem zMk (env:Env) (he:env[0]?=some (some (.ref n))):∀(k:Nat) {S:Store}{num:Int}{left:List Int},left.length=k->DealAt S n m seed num left->∃S' num' left',zBv zNo zNs (k+1) env S=.nx env S'/\DealAt S' n m seed num' left'/\Only n m S S':=by
 intro k
 induction k with
 | zero=>
  intro S num left hk h
  rcases zJm env he h with c|⟨ls,x,rfl,_⟩
  ·exact⟨S,num,left,by rw[zBv,c,Rs.then_ok,xg (by decide)],h,.refl⟩
  ·simp at hk
 | succ k ih=>
  intro S num left hk h
  rcases zJm env he h with c|⟨ls,x,rfl,c,b⟩
  ·exact⟨S,num,left,by rw[zBv,c,Rs.then_ok,xg (by decide)],h,.refl⟩
  ·obtain⟨S',num',left',e,hd,o⟩:=ih (by simpa using hk) ((h.set_left ls).set_num x)
   refine⟨S',num',left',?_,hd,(Only.set2 _).trans ((Only.set1 _).trans o)⟩
   rw[zBv,c,Rs.then_ok,xf rfl,b]
   exact e
noncomputable def yA3:SM:=
  (sSeq (zFq zNo zNs)
  (sSeq (sSet 2 (eOp ixD (eVar 0) (eC kNum)))
  (sSeq (sIf (tB (eOp gtD (eVar 2) (eC (.int 0)))) (sSeq (sPut putN (eVar 0) (eC kNum) (eOp zPx (eVar 2) (eVar 1)))
  (sRet (eOp modD (eVar 2) (eVar 1)))) zAv)
  (sSeq (sSet 3 (eOp modD (eOp addD (eOp mulD (eOp ixD (eVar 0) (eC zEv)) (eC (.int 48271))) (eC (.int 7919))) (eC (.int 2147483647))))
  (sSeq (sPut putN (eVar 0) (eC zEv) (eOp modD (eOp addD (eOp mulD (eVar 3) (eC (.int 40692))) (eC (.int 104729))) (eC (.int 2147483399))))
  (sSeq (sSet 4 (eOp modD (eOp mulD (eOp ixD (eVar 0) (eC zEv)) (eOp ixD (eVar 0) (eC zEv))) (eC (.int 2147483563))))
  (sRet (eOp modD (eOp addD (eOp mulD (eOp modD (eOp mulD (eVar 3) (eVar 3)) (eC (.int 2147483629))) (eC (.int 2147483563))) (eVar 4)) (eVar 1)))))))))
theorem zEo {x:Int}(h1:0<=x) (h2:x<2147483648):sm x:=zY0 (by nofun) (by nofun)
theorem zLt {k:Nat}(h:m<k):(zF0 seed num m).low k=true:=by
 show(lowL k [zEv,kNum,zFy] && lowL k [.int seed,.int num,.ref m])=true
 simp[lowL,D.low,h]
theorem low_ints {k:Nat}:∀(l:List Int),lowL k (l.map D.int)=true
 | []=>rfl
 | x::l=>by show(true && lowL k (l.map D.int))=true;rw[low_ints l];rfl
theorem zIb {S':Store}{seed' num':Int}{left':List Int}{d:D}(h:DealAt S n m seed num left) (h':DealAt S' n m seed' num' left') (o:Only n m S S') (hd:d.low S.length=true):fin S d S'=.ok d S':=by
 refine zZt o.len.symm (fun i e he=>?_) hd
 by_cases h1:i=n
 ·subst h1;rw[h'.d]at he;cases he;exact .inr (zLt h.ltm)
 ·by_cases h2:i=m
  ·subst h2;rw[h'.l]at he;cases he;exact .inr (low_ints left')
  ·rw[o.at_ i h1 h2]at he;exact .inl he
noncomputable def Deal (S:Store) (n m:Nat):Prop:=∃seed num left,DealAt S n m seed num left
theorem zWr {a b:Int}(hb:0<b) (hs:sm b):zPx S (.int a) (.int b)=some (.int (a.fdiv b)):=xf ⟨by nofun,hs⟩
theorem zD8 {a b:Int}(hb:0<b):modD S (.int a) (.int b)=some (.int (a % b)):=xf hb
theorem zWz {many:Int}(hm:0<many) (hs:sm many) (h:Deal S n m):∃(r:Int) (S':Store),zBp 2 5 yA3 [.ref n,.int many] S=.ok (.int r) S'/\0<=r/\r<many/\Deal S' n m/\Only n m S S':=by
 obtain⟨seed,num,left,h⟩:=h
 obtain⟨S1,num1,left1,ew,h1,o1⟩:=zMk (env:=[some (.ref n),some (.int many),none,none,none]) rfl left.length rfl h
 have ew':zFq zNo zNs [some (.ref n),some (.int many),none,none,none] S=.nx [some (.ref n),some (.int many),none,none,none] S1:=by
  rw[zOf (n:=left.length+1) (by rw[ew];exact fun z=>nomatch z),ew]
 unfold zBp yA3
 simp only[xE,v7,Nat.reduceAdd,xj,xt,vf,Nat.reduceSub,List.replicate,yq,ur]
 rw[sSeq,ew']
 dsimp only
 have g:gtD S1 (.int num1) (.int 0)=some (.bl (decide (0<num1))):=rfl
 by_cases hp:0<num1
 ·have p1:=zOl h1 (num1.fdiv many)
  have h2:=h1.set_num (num1.fdiv many)
  try simp_arith [xj]
  simp only[zPj h1]
  try simp_arith [xj]
  simp only[g,xv hp]
  try simp_arith [xj]
  simp only[sPut]
  try simp_arith [xj]
  simp only[zWr hm hs]
  try simp_arith [xj]
  simp only[p1]
  try simp_arith [xj]
  simp only[zD8 hm]
  try simp_arith [xj]
  exact⟨num1 % many,_,zIb h h2 (o1.trans (.set1 _)) rfl,uq _ (by nofun),uo _ hm,⟨_,_,_,h2⟩,o1.trans (.set1 _)⟩
 ·simp_arith [xj]
  simp only[zPj h1]
  try simp_arith [xj]
  simp only[g,xu hp]
  try simp_arith [xj]
  simp only[zKp h1]
  try simp_arith [xj]
  have s1:sm seed/\sm 48271:=⟨zEo h1.lo (by have:=h1.hi;lia),zEo (by decide) (by decide)⟩
  simp only[zFu s1]
  try simp_arith [xj]
  simp only[zD8 (show(0:Int)<2147483647 by decide)]
  try simp_arith [xj]
  generalize ho:(seed*48271+7919) % 2147483647=one
  have o0:0<=one:=by rw[<- ho];exact uq _ (by decide)
  have o9:one<2147483647:=by rw[<- ho];exact uo _ (by decide)
  simp only[sPut]
  try simp_arith [xj]
  simp only[zFu (show sm one/\sm 40692 from⟨zEo o0 (by nofun),zEo (by decide) (by decide)⟩)]
  try simp_arith [xj]
  simp only[zD8 (show(0:Int)<2147483399 by decide)]
  try simp_arith [xj]
  generalize hq:(one*40692+104729) % 2147483399=sd
  have s0:0<=sd:=by rw[<- hq];exact uq _ (by decide)
  have s9:sd<2147483399:=by rw[<- hq];exact uo _ (by decide)
  have p1:=zRn h1 sd
  have h2:=h1.set_seed sd s0 (by nofun)
  simp only[p1]
  try simp_arith [xj]
  simp only[zKp h2]
  try simp_arith [xj]
  simp only[zKp h2]
  try simp_arith [xj]
  simp only[zFu (show sm sd/\sm sd from⟨zEo s0 (by nofun),zEo s0 (by nofun)⟩)]
  try simp_arith [xj]
  simp only[zD8 (show(0:Int)<2147483563 by decide)]
  try simp_arith [xj]
  simp only[zFu (show sm one/\sm one from⟨zEo o0 (by nofun),zEo o0 (by nofun)⟩)]
  try simp_arith [xj]
  simp only[zD8 (show(0:Int)<2147483629 by decide)]
  try simp_arith [xj]
  generalize hw:one*one % 2147483629=w
  have w0:0<=w:=by rw[<- hw];exact uq _ (by decide)
  have w9:w<2147483629:=by rw[<- hw];exact uo _ (by decide)
  simp only[zFu (show sm w/\sm 2147483563 from⟨zEo w0 (by nofun),zEo (by decide) (by decide)⟩)]
  try simp_arith [xj]
  simp only[zD8 hm]
  try simp_arith [xj]
  exact⟨_,_,zIb h h2 (o1.trans (.set1 _)) rfl,uq _ (by nofun),uo _ hm,⟨_,_,_,h2⟩,o1.trans (.set1 _)⟩
end
end
end DS
namespace DS
open PySem (Str)
noncomputable section
open Classical
structure AtJ (env:Env) (j:Nat) (d:D) (env':Env):Prop where
 len:env'.length=env.length
 at_:env'[j]?=some (some d)
 o:∀i:Nat,i≠j->env'[i]?=env[i]?
theorem AtJ.set {env:Env}{j:Nat}(h:j<env.length) (d:D):AtJ env j d (env.set j (some d)):=⟨by simp,by rw[vF h],fun i hi=>xO (xw hi)⟩
theorem AtJ.more {env env1 env2:Env}{j:Nat}{d e:D}(a:AtJ env j d env1) (b:AtJ env1 j e env2):AtJ env j e env2:=⟨b.len.trans a.len,b.at_,fun i hi=>(b.o i hi).trans (a.o i hi)⟩
theorem zGd {gd:List (Nat × D)}{j:Nat}{c:TM}{e:EM}{f:D->D}{p:D->Bool}{S:Store}(hg:gOk S gd):∀(l:List D) (k:Nat) (env:Env),j<env.length->k+l.length<=most->(∀d∈l,∀env',AtJ env j d env'->c env' S=.ok (p d) S)->(∀d∈l,p d=true->∀env',AtJ env j d env'->e env' S=.ok (f d) S)->
  zCw gd (gName j) c e k l env S=.ok ((l.filter p).map f) S
 | [],k,env,_,_,_,_=>by rw[zCw,xf hg];rfl
 | d::l,k,env,hj,hk,hc,he=>by
  have hk':k+(l.length+1)<=most:=hk
  rw[zCw,xf ⟨hg,by nofun⟩]
  have a:=AtJ.set hj d
  show(c (env.set j (some d)) S).bind _=_
  rw[hc d (.head _) _ a,Rs.bind_ok]
  have up:∀x env',AtJ (env.set j (some d)) j x env'->AtJ env j x env':=fun x env' q=>a.more q
  have r:=fun k' (h:k'+l.length<=most)=>zGd (f:=f) hg l k' (env.set j (some d)) (by simpa using hj) h (fun x hx env' q=>hc x (.tail _ hx) env' (up x env' q)) fun x hx hp env' q=>he x (.tail _ hx) hp env' (up x env' q)
  by_cases hp:p d=true
  ·rw[xf hp,he d (.head _) hp _ a,Rs.bind_ok,r (k+1) (by nofun),Rs.bind_ok,uy hp];rfl
  ·rw[xg hp,r k (by nofun),yc hp]
theorem comp_map {gd:List (Nat × D)}{j:Nat}{e:EM}{f:D->D}{S:Store}(hg:gOk S gd) {l:List D}{env:Env}(hj:j<env.length) (hk:l.length<=most) (he:∀d∈l,∀env',AtJ env j d env'->e env' S=.ok (f d) S):zCw gd (gName j) tYes e 0 l env S=.ok (l.map f) S:=by
 have:=zGd (c:=tYes) (p:=fun _=>true) (f:=f) (e:=e) hg l 0 env hj (by nofun) (fun _ _ _ _=>rfl) fun d hd _=>he d hd
 rwa[List.filter_eq_self.mpr fun _ _=>rfl]at this
theorem zAi {S:Store}:gOk S []:=fun _ h=>nomatch h
theorem zPv {gd:List (Nat × D)}{i j:Nat}{b:SM}{S:Store}{f:D->D->D}(hij:i≠j) (hg:gOk S gd) {I:D->Prop}:∀(l:List D) (env:Env) (a:D),env[i]?=some (some a)->j<env.length->I a->(∀d∈l,∀env' a,env'.length=env.length->env'[i]?=some (some a)->env'[j]?=some (some d)->I a->(∀k,k≠i->k≠j->env'[k]?=env[k]?)->b env' S=.nx (env'.set i (some (f a d))) S/\I (f a d))->
  ∃env',forL gd (gName j) b l env S=.nx env' S/\env'.length=env.length/\env'[i]?=some (some (l.foldl f a))/\I (l.foldl f a)/\∀k,k≠i->k≠j->env'[k]?=env[k]?
 | [],env,a,ha,hj,hi,_=>⟨env,by rw[forL,xf hg],rfl,ha,hi,fun _ _ _=>rfl⟩
 | d::l,env,a,ha,hj,hi,hb=>by
  have il:i<env.length:=(xH.mp ha).1
  obtain⟨e1,i1⟩:=hb d (.head _) (env.set j (some d)) a (by simp) (by rw[xO (xw hij)];exact ha) (by rw[vF hj]) hi fun k _ hk=>xO (xw hk)
  obtain⟨env',e2,l2,a2,i2,o2⟩:=zPv hij hg l ((env.set j (some d)).set i (some (f a d))) (f a d) (by rw[vF (by simpa using il)]) (by simpa using hj) i1 fun x hx env' a' hl h1 h2 h3 h4=>hb x (.tail _ hx) env' a' (by simpa using hl) h1 h2 h3 fun k k1 k2=>by
   rw[h4 k k1 k2,xO (xw k1),xO (xw k2)]
  refine⟨env',?_,by simpa using l2,a2,i2,fun k k1 k2=>by rw[o2 k k1 k2,xO (xw k1),xO (xw k2)]⟩
  rw[forL,xf hg]
  show(match b (env.set j (some d)) S with|.nx e S1=>forL gd (gName j) b l e S1|.ct e S1=>forL gd (gName j) b l e S1|.bk e S1=>.nx e S1|q=>q)=_
  rw[e1]
  exact e2
end
end DS
namespace DS
open PySem (Str)
noncomputable section
open Classical
noncomputable def absI (x:Int):Int:=if 0-x > x then 0-x else x
noncomputable abbrev eAbs:EM:=eCB max2B (zA0 (eVar 0) (zA0 (eOp subD (eC (.int 0)) (eVar 0)) aNil))
noncomputable abbrev zQy (i j:Nat):SM:=sSet i (eOp modD (eOp addD (eOp mulD (eVar i) (eC (.int 48271))) (eOp modD (eVar j) (eC (.int 2147483629)))) (eC (.int 2147483647)))
noncomputable abbrev zWw (i:Nat):EM:=zAh 1 [] (iVal (eVar i)) (gName 0) (tB (eOp geD (eVar 0) (eOp powD (eC (.int 10)) (eC (.int 18))))) (eVar 0)
noncomputable abbrev zRl (i j:Nat):SM:=sRet (zT1 [zEv,kNum,zFy] (zA0 (eVar j) (zA0 (eC (.int 0)) (zA0 (eNew (eUn revL (zWw i))) aNil))))
theorem zT9 {S:Store}{env:Env}(ns:List Int) (h:ns.length<=most):zCw [] (gName 0) tYes eAbs 0 (ns.map D.int) (compEnv 1 [] env) S=.ok ((ns.map absI).map D.int) S:=by
 have:=comp_map (gd:=[]) (j:=0) (e:=eAbs) (f:=fun d=>match d with|.int x=>.int (absI x)|d=>d) (S:=S) (l:=ns.map D.int) (env:=compEnv 1 [] env) zAi (by simp[compEnv]) (by simpa using h) fun d hd env' a=>by
  obtain⟨x,_,rfl⟩:=xq.mp hd
  have e0:∀S,eVar 0 env' S=.ok (.int x) S:=fun S=>by unfold eVar;rw[a.at_]
  unfold eAbs eCB zA0 eOp aNil eC
  simp only[e0,Rs.bind_ok,subD,zAs,max2B]
  rfl
 rw[this,xP,xP]
 rfl
theorem zQg {S:Store}{env:Env}(i:Nat) (ns:List Int) (hi:env[i]?=some (some (.lst (ns.map D.int)))) (h:ns.length<=most):zWw i env S=.ok (.lst ((ns.filter fun x=>decide ((10:Int) ^ 18<=x)).map D.int)) S:=by
 unfold zWw zAh iVal
 have e0:eVar i env S=.ok (.lst (ns.map D.int)) S:=by unfold eVar;rw[hi]
 rw[e0,Rs.bind_ok,show zCa S (.lst (ns.map D.int))=some ⟨ns.map D.int,[]⟩from rfl,zAs,Rs.bind_ok]
 have:=zGd (gd:=[]) (j:=0) (c:=tB (eOp geD (eVar 0) (eOp powD (eC (.int 10)) (eC (.int 18))))) (e:=eVar 0) (f:=id) (p:=fun d=>match d with|.int x=>decide ((10:Int) ^ 18<=x)|_=>false) (S:=S) zAi (ns.map D.int) 0 (compEnv 1 [] env) (by simp[compEnv]) (by simpa using h) (fun d hd env' a=>by
  obtain⟨x,_,rfl⟩:=xq.mp hd
  have e0:∀S,eVar 0 env' S=.ok (.int x) S:=fun S=>by unfold eVar;rw[a.at_]
  have pw:powD S (.int 10) (.int 18)=some (.int ((10:Int) ^ 18)):=by
   show(if(0:Int)<=18/\(18:Int)<=1000000/\(10:Int).natAbs<2 ^ 64 then some (D.int ((10:Int) ^ (18:Int).toNat))else none)=_
   rw[xf (by decide)];rfl
  unfold tB eOp eC
  simp only[e0,Rs.bind_ok,pw,zAs,geD,asB]) (fun d hd hp env' a=>by
  unfold eVar;rw[a.at_];rfl)
 rw[this,Rs.bind_ok,List.map_id]
 congr 2
 exact List.filter_map
theorem zSx {S:Store}{env:Env}{i j k:Nat}(hij:i≠j) (hik:i≠k) (hjk:j≠k) {ns:List Int}{a0:Int}(h1:env[i]?=some (some (.lst (ns.map D.int)))) (h2:env[j]?=some (some (.int a0))) (hk:k<env.length) (l0:0<=a0) (l1:a0<2147483647):
  ∃env' seed,sFor (iVal (eVar i)) (gName k) (zQy j k) env S=.nx env' S/\env'.length=env.length/\env'[i]?=some (some (.lst (ns.map D.int)))/\env'[j]?=some (some (.int seed))/\0<=seed/\seed<2147483647:=by
 have e0:eVar i env S=.ok (.lst (ns.map D.int)) S:=by unfold eVar;rw[h1]
 obtain⟨env',e1,l2,a2,⟨seed,es,s0,s1⟩,o2⟩:=zPv (gd:=[]) (i:=j) (j:=k) (b:=zQy j k) (S:=S) (f:=fun a d=>match a,d with|.int a,.int d=>.int ((a*48271+d % 2147483629) % 2147483647)|a,_=>a) hjk zAi (I:=fun d=>∃x:Int,d=.int x/\0<=x/\x<2147483647) (ns.map D.int) env (.int a0) h2 hk ⟨a0,rfl,l0,l1⟩ fun d hd env' a hl q1 q2 q3 q4=>by
  obtain⟨x,_,rfl⟩:=xq.mp hd
  obtain⟨y,rfl,y0,y1⟩:=q3
  refine⟨?_,_,rfl,uq _ (by decide),uo _ (by decide)⟩
  have v1:∀S,eVar j env' S=.ok (.int y) S:=fun S=>by unfold eVar;rw[q1]
  have v2:∀S,eVar k env' S=.ok (.int x) S:=fun S=>by unfold eVar;rw[q2]
  unfold zQy sSet eOp eC
  simp only[v1,v2,Rs.bind_ok,Rs.then_ok,zAs,zFu (show sm y/\sm 48271 from⟨zEo y0 (by nofun),zEo (by decide) (by decide)⟩),zD8 (show(0:Int)<2147483629 by decide),addD,zD8 (show(0:Int)<2147483647 by decide)]
 refine⟨env',seed,?_,l2,by rw[o2 i hij hik];exact h1,by rw[a2,es],s0,s1⟩
 unfold sFor iVal
 rw[e0,Rs.bind_ok,show zCa S (.lst (ns.map D.int))=some ⟨ns.map D.int,[]⟩from rfl,zAs,Rs.then_ok]
 exact e1
theorem zY4 {S:Store}{env:Env}{i j:Nat}{ns:List Int}{seed:Int}(h1:env[i]?=some (some (.lst (ns.map D.int)))) (h2:env[j]?=some (some (.int seed))) (s0:0<=seed) (s1:seed<2147483647) (hl:ns.length<=most):
  ∃S',zRl i j env S=.rt (.ref S.length) S'/\Deal S' S.length (S.length+1)/\S'.length=S.length+2/\∀k,k<S.length->S'[k]?=S[k]?:=by
 have v2:∀S,eVar j env S=.ok (.int seed) S:=fun S=>by unfold eVar;rw[h2]
 have rv:∀S (l:List D),revL S (.lst l)=some (.lst l.reverse):=fun _ _=>rfl
 have lk:((S++[D.dct false [] []])++[D.lst ((ns.filter fun x=>decide ((10:Int) ^ 18<=x)).map D.int).reverse])[S.length]?=some (D.dct false [] []):=by simp
 refine⟨((S++[D.dct false [] []])++[D.lst ((ns.filter fun x=>decide ((10:Int) ^ 18<=x)).map D.int).reverse]).set S.length (.dct false [zEv,kNum,zFy] [.int seed,.int 0,.ref (S++[D.dct false [] []]).length]),?_,?_,?_,?_⟩
 ·unfold zRl sRet zT1 eNew eUn zA0 aNil eC
  simp only[v2,Rs.bind_ok,zQg i ns h1 hl,rv,zAs,lk,xj,Rs.then_ok]
 ·refine⟨seed,0,(ns.filter fun x=>decide ((10:Int) ^ 18<=x)).reverse,?_,?_,by nofun,s0,s1⟩
  ·simp[zF0]
  ·simp
 ·simp
 ·intro k hk
  rw[xO (by nofun),vv (by simp;lia),vv hk]
theorem zT8 {ns:List Int}{lo hi:Option Int}:cutL (ns.map D.int) lo hi=(cutL ns lo hi).map D.int:=by
 unfold cutL
 simp[List.map_drop,List.map_take]
end
end DS
namespace DS
open PySem (Str)
noncomputable section
open Classical
theorem zCc {np nl:Nat}{b:SM}{ds:List D}{S:Store}{d:D}(hl:ds.length=np) (h:b (ds.map some++List.replicate (nl-np) none) S=.rt d S) (hd:d.low S.length=true):zBp np nl b ds S=.ok d S:=by
 unfold zBp
 rw[xf hl,h]
 exact zSy hd
theorem zNn {np nl n m:Nat}{b:SM}{ds:List D}{S S':Store}{d:D}(hl:ds.length=np) (h:b (ds.map some++List.replicate (nl-np) none) S=.rt d S') (h0:Deal S n m) (h1:Deal S' n m) (o:Only n m S S') (hd:d.low S.length=true):zBp np nl b ds S=.ok d S':=by
 obtain⟨_,_,_,a⟩:=h0
 obtain⟨_,_,_,b⟩:=h1
 unfold zBp
 rw[xf hl,h]
 exact zIb a b o hd
end
end DS
namespace DS
open PySem (Str)
noncomputable section
open Classical
noncomputable def zQz:SM:=
  (sSeq (sSet 1 (zAh 1 [] (iVal (eSl slD (eVar 0) pNo (pYes (eC (.int 63))))) (gName 0) tYes eAbs))
  (sSeq (sSet 2 (eC (.int 7919)))
  (sSeq (sFor (iVal (eVar 1)) (gName 3) (zQy 2 3)) (zRl 1 2))))
theorem zT7 {S:Store}{ns:List Int}(h:ns.length<=63):∃S',zIk 1 4 zQz [.klst (ns.map D.int)] S=.ok (.ref S.length) S'/\Deal S' S.length (S.length+1)/\S'.length=S.length+2/\∀k,k<S.length->S'[k]?=S[k]?:=by
 have hl:((cutL ns none (some 63)).map absI).length<=most:=by
  have:(cutL ns none (some 63)).length<=ns.length:=by unfold cutL;rw[xU,vg];lia
  have m63:63<=most:=by decide
  rw[xp];lia
 have sl:slD S (.klst (ns.map D.int)) none (some 63)=some (.lst ((cutL ns none (some 63)).map D.int)):=by
  show some (D.lst (cutL (ns.map D.int) none (some 63)))=_
  rw[zT8]
 have c1:=zT9 (S:=S) (env:=[some (.klst (ns.map D.int)),none,none,none]) (cutL ns none (some 63)) (by rw[xp]at hl;exact hl)
 have w1:zCa S (.lst ((cutL ns none (some 63)).map D.int))=some ⟨(cutL ns none (some 63)).map D.int,[]⟩:=rfl
 unfold zIk zQz
 simp only[xE,v7,Nat.reduceAdd,xj,xt,vf,Nat.reduceSub,List.replicate,yq,ur]
 obtain⟨env',seed,e1,l1,a1,b1,s0,s1⟩:=zSx (S:=S) (env:=[some (.klst (ns.map D.int)),some (.lst (((cutL ns none (some 63)).map absI).map D.int)),some (.int 7919),none]) (i:=1) (j:=2) (k:=3) (by decide) (by decide) (by decide) rfl rfl (by simp) (by decide) (by decide)
 obtain⟨S',e2,d2,l2,o2⟩:=zY4 (S:=S) a1 b1 s0 s1 hl
 refine⟨S',?_,d2,l2,o2⟩
 have st:sSeq (sSet 1 (zAh 1 [] (iVal (eSl slD (eVar 0) pNo (pYes (eC (.int 63))))) (gName 0) tYes eAbs)) (sSeq (sSet 2 (eC (.int 7919))) (sSeq (sFor (iVal (eVar 1)) (gName 3) (zQy 2 3)) (zRl 1 2))) [some (.klst (ns.map D.int)),none,none,none] S=.rt (.ref S.length) S':=by
  simp only[sSeq,sSet,zAh,iVal,eSl,pYes,pNo,eC,eOp,eVar,uI,yL,Rs.bind_ok,zAs,vL,asI,sl,w1,c1,Rs.then_ok,List.set_cons_zero,List.set_cons_succ,addD]
  simp only[e1,e2]
 rw[st]
end
end DS
namespace DS
open PySem (Str)
noncomputable section
open Classical
structure Grow (n m:Nat) (S S':Store):Prop where
 len:S.length<=S'.length
 at_:∀k,k<S.length->k≠n->k≠m->S'[k]?=S[k]?
section
variable {n m:Nat}{S S' S'':Store}
theorem Grow.refl:Grow n m S S:=⟨xi _,fun _ _ _ _=>rfl⟩
theorem Grow.trans (a:Grow n m S S') (b:Grow n m S' S''):Grow n m S S'':=⟨xk a.len b.len,fun k h h1 h2=>(b.at_ k (xC h a.len) h1 h2).trans (a.at_ k h h1 h2)⟩
theorem Only.grow (a:Only n m S S'):Grow n m S S':=⟨by rw[a.len];exact xi _,fun k _ h1 h2=>a.at_ k h1 h2⟩
theorem Grow.app (T:Store):Grow n m S (S++T):=⟨by simp,fun k h _ _=>vv h⟩
theorem Grow.set {c:Nat}{d:D}(a:Grow n m S S') (h:S.length<=c):Grow n m S (S'.set c d):=⟨by simpa using a.len,fun k hk h1 h2=>by rw[xO (by nofun)];exact a.at_ k hk h1 h2⟩
theorem Deal.lt (h:Deal S n m):n<S.length/\m<S.length:=by
 obtain⟨_,_,_,h⟩:=h
 exact⟨h.lt,h.ltm⟩
theorem Deal.app (h:Deal S n m) (T:Store):Deal (S++T) n m:=by
 have l:=h.lt
 obtain⟨a,b,c,h⟩:=h
 exact⟨a,b,c,⟨by rw[vv l.1];exact h.d,by rw[vv l.2];exact h.l,h.ne,h.lo,h.hi⟩⟩
theorem Deal.set {k:Nat}{d:D}(h:Deal S n m) (h1:k≠n) (h2:k≠m):Deal (S.set k d) n m:=by
 obtain⟨a,b,c,h⟩:=h
 exact⟨a,b,c,⟨by rw[xO h1];exact h.d,by rw[xO h2];exact h.l,h.ne,h.lo,h.hi⟩⟩
theorem zJa {n:Nat}:∀{S S':Store},S.length<=S'.length->(∀(i:Nat) (d:D),i<S.length->S'[i]?=some d->S[i]?=some d\/d.low n=true)->keeps n S S'
 | [],_,_,_=>trivial
 | a::r,[],e,_=>by simp at e
 | a::r,b::t,e,h=>⟨by
   rcases h 0 b (by simp) rfl with q|q
   ·exact .inl (by simpa using q)
   ·exact .inr q,zJa (by simpa using e) fun i d hi q=>by simpa using h (i+1) d (by simpa using hi) (by simpa using q)⟩
theorem zSz {d:D}(h:Deal S n m) (h':Deal S' n m) (g:Grow n m S S') (hd:d.low S.length=true):∃S'',fin S d S'=.ok d S''/\Deal S'' n m/\Only n m S S'':=by
 have l:=h.lt
 refine⟨S'.take S.length,?_,?_,?_⟩
 ·unfold fin
  rw[xf,xf hd]
  refine zJa g.len fun i e hi he=>?_
  obtain⟨_,_,_,h'⟩:=h'
  by_cases h1:i=n
  ·subst h1;rw[h'.d]at he;cases he;exact .inr (zLt l.2)
  ·by_cases h2:i=m
   ·subst h2;rw[h'.l]at he;cases he;exact .inr (low_ints _)
   ·rw[g.at_ i hi h1 h2]at he;exact .inl he
 ·obtain⟨a,b,c,h'⟩:=h'
  exact⟨a,b,c,⟨by rw[uF l.1];exact h'.d,by rw[uF l.2];exact h'.l,h'.ne,h'.lo,h'.hi⟩⟩
 ·refine⟨by rw[xU];have:=g.len;lia,fun k h1 h2=>?_⟩
  by_cases hk:k<S.length
  ·rw[uF hk];exact g.at_ k hk h1 h2
  ·rw[vT (by rw[xU];lia),vT (by nofun)]
theorem zHg {np nl:Nat}{b:SM}{ds:List D}{d:D}(hl:ds.length=np) (h:b (ds.map some++List.replicate (nl-np) none) S=.rt d S') (h0:Deal S n m) (h1:Deal S' n m) (o:Grow n m S S') (hd:d.low S.length=true):∃S'',zBp np nl b ds S=.ok d S''/\Deal S'' n m/\Only n m S S'':=by
 obtain⟨S'',e,a,b'⟩:=zSz h0 h1 o hd
 refine⟨S'',?_,a,b'⟩
 unfold zBp
 rw[xf hl,h]
 exact e
end
theorem zLj {k:Int}(h0:0<=k) (h:k<1000000):zHw [.int k]=some ⟨(List.range k.toNat).map fun(i:Nat)=>.int (i:Int),[]⟩:=by
 show(if fits62 k=true then some (Walk.mk (zGx 0 k) [])else none)=_
 rw[xf (by unfold fits62;exact xv ⟨by nofun,by nofun⟩)]
 unfold zGx
 simp
theorem zU0 {α:Type}[BEq α] [LawfulBEq α]:∀{l m:List α},l.Nodup->(∀x∈l,x∈m)->l.length<=m.length
 | [],_,_,_=>xR _
 | a::l,m,h,hm=>by
  have hn:=vP.mp h
  have am:=hm a (.head _)
  have:=zU0 (l:=l) (m:=m.erase a) hn.2 fun x hx=>(List.mem_erase_of_ne fun z=>hn.1 (by subst z;exact hx)).mpr (hm x (.tail _ hx))
  rw[List.length_erase_of_mem am]at this
  have:0<m.length:=List.length_pos_of_mem am
  rw[xE];lia
theorem zKr {S:Store}{c:Nat}{d:D}(h:S[c]?=some d):gOk S [(c,d)]:=fun p hp=>by rw[xF.mp hp];exact h
theorem zHk {S:Store}{c:Nat}{l:List D}(h:S[c]?=some (.lst l)):zCa S (.ref c)=some ⟨l,[(c,.lst l)]⟩:=by
 unfold zCa look gdOf
 simp only[h]
end
end DS
namespace DS
noncomputable section
open Classical
theorem zQj {α β:Type}{h:α->D}{k:β->D}{gd:List (Nat × D)}{g:GM}{e:EM}{I:Env->Prop}{J:Store->Prop}{P:β->Prop}(hg:∀S,J S->gOk S gd):∀(xs:List α) (c:Nat) (env:Env) (S:Store),I env->J S->c+xs.length<=most->
  (∀a∈xs,∀env S,I env->J S->∃env' b S',g S (h a) env=some env'/\I env'/\e env' S=.ok (k b) S'/\P b/\J S')->∃(bs:List β) (S':Store),zCw gd g tYes e c (xs.map h) env S=.ok (bs.map k) S'/\bs.length=xs.length/\(∀b∈bs,P b)/\J S'
 | [],c,env,S,_,hj,_,_=>⟨[],S,by rw[vf,zCw,xf (hg S hj)];rfl,rfl,(fun b hb=>nomatch hb),hj⟩
 | a::xs,c,env,S,hi,hj,hk,he=>by
  have hk':c+(xs.length+1)<=most:=hk
  obtain⟨env',b,S1,e1,i1,e2,p,j1⟩:=he a (.head _) env S hi hj
  obtain⟨bs,S2,e3,l3,p3,j3⟩:=zQj (h:=h) (k:=k) (g:=g) (e:=e) (I:=I) (J:=J) (P:=P) hg xs (c+1) env' S1 i1 j1 (by nofun) fun a ha=>he a (.tail _ ha)
  refine⟨b::bs,S2,?_,by simp[l3],fun z hz=>?_,j3⟩
  ·rw[xt,zCw,xf ⟨hg S hj,by nofun⟩,e1]
   show(tYes env' S).bind _=_
   rw[tYes,Rs.bind_ok,xf rfl,e2,Rs.bind_ok,e3,Rs.bind_ok]
   rfl
  ·rcases xm.mp hz with rfl|z
   ·exact p
   ·exact p3 _ z
theorem zWx {α β:Type}{h:α->D}{k:β->D}{own:Nat}{ix:List Nat}{i:IM}{gd:List (Nat × D)}{g:GM}{e:EM}{S S0:Store}{env:Env}{xs:List α}(I:Env->Prop) (J:Store->Prop) (P:β->Prop) (hi:i env S0=.ok ⟨xs.map h,gd⟩ S) (hg:∀S,J S->gOk S gd) (h0:I (compEnv own ix env)) (j0:J S) (hk:xs.length<=most)
  (he:∀a∈xs,∀env S,I env->J S->∃env' b S',g S (h a) env=some env'/\I env'/\e env' S=.ok (k b) S'/\P b/\J S'):∃(bs:List β) (S':Store),zAh own ix i g tYes e env S0=.ok (.lst (bs.map k)) S'/\bs.length=xs.length/\(∀b∈bs,P b)/\J S':=by
 obtain⟨bs,S',e1,l1,p1,j1⟩:=zQj (h:=h) (k:=k) (g:=g) (e:=e) (I:=I) (J:=J) (P:=P) hg xs 0 _ S h0 j0 (by nofun) he
 refine⟨bs,S',?_,l1,p1,j1⟩
 rw[zAh,hi,Rs.bind_ok]
 rw[e1,Rs.bind_ok]
theorem zJf {α:Type}{h:α->D}{gd:List (Nat × D)}{g:GM}{b:SM}(I:Env->Store->Prop) (hg:∀env S,I env S->gOk S gd):∀(xs:List α) (env:Env) (S:Store),I env S->
  (∀a∈xs,∀env S,I env S->∃env' env'' S',g S (h a) env=some env'/\b env' S=.nx env'' S'/\I env'' S')->∃env' S',forL gd g b (xs.map h) env S=.nx env' S'/\I env' S'
 | [],env,S,hi,_=>⟨env,S,by rw[vf,forL,xf (hg env S hi)],hi⟩
 | a::xs,env,S,hi,he=>by
  obtain⟨env',env'',S1,e1,e2,e3⟩:=he a (.head _) env S hi
  obtain⟨e4,S2,e5,e6⟩:=zJf (h:=h) (gd:=gd) (g:=g) (b:=b) I hg xs env'' S1 e3 fun b hb=>he b (.tail _ hb)
  refine⟨e4,S2,?_,e6⟩
  rw[xt,forL,xf (hg env S hi),e1]
  dsimp only
  rw[e2]
  exact e5
section
variable {n m c:Nat}{S S' S0:Store}{d:D}
theorem zR1 {l:List D}(h:S[c]?=some (.lst l)) (hl:l.length<1000):zC1 S (.ref c) [d]=some (.non,S.set c (.lst (l++[d]))):=by
 unfold zC1
 simp only[h]
 have m9:1000<=most:=by decide
 rw[xf (by nofun)]
theorem ty_D {l:List D}(h:S[c]?=some (.lst l)):tyD S (.ref c)=some "list":=by unfold tyD;rw[show look S (.ref c)=_ from h]
structure MkD (n m:Nat) (S0:Store) (c:Nat) (l:List D) (S:Store):Prop where
 deal:Deal S n m
 grow:Grow n m S0 S
 at_:S[c]?=some (.lst l)
 far:S0.length<=c
theorem MkD.draw {l:List D}(h0:Deal S0 n m) (h:MkD n m S0 c l S) (d:Deal S' n m) (o:Only n m S S'):MkD n m S0 c l S':=by
 have l0:=h0.lt
 have:=h.far
 exact⟨d,h.grow.trans o.grow,by rw[o.at_ c (by nofun) (by nofun)];exact h.at_,h.far⟩
theorem MkD.add {l:List D}(h0:Deal S0 n m) (h:MkD n m S0 c l S) (d:D):MkD n m S0 c (l++[d]) (S.set c (.lst (l++[d]))):=by
 have l0:=h0.lt
 have:=h.far
 exact⟨h.deal.set (by nofun) (by nofun),h.grow.set h.far,by rw[vF (xH.mp h.at_).1],h.far⟩
theorem MkD.new (h0:Deal S0 n m) (d:Deal S n m) (g:Grow n m S0 S) (l:List D):MkD n m S0 S.length l (S++[.lst l]):=⟨d.app _,g.trans (.app _),by simp,g.len⟩
end
end
end DS
namespace RW
open Classical
section
variable {α:Type}{rs:List (List α)}
noncomputable def Sub (q r:List α):Prop:=∀x∈q,x∈r
structure Cn (rs:List (List α)):Prop where
 nd:∀r∈rs,r.Nodup
 eq:∀q∈rs,∀r∈rs,Sub q r->Sub r q->q=r
noncomputable def Mn (rs:List (List α)) (r:List α):Prop:=r∈rs/\∀q∈rs,Sub q r->q=r
theorem zSf {l m:List α}(h:l.Nodup) (s:∀x∈l,x∈m):l.length<=m.length:=by
 letI:BEq α:=instBEqOfDecidableEq
 exact DS.zU0 h s
theorem Cn.lt (c:Cn rs) {q r:List α}(hq:q∈rs) (hr:r∈rs) (s:Sub q r) (n:q≠r):q.length<r.length:=by
 have:¬ Sub r q:=fun z=>n (c.eq q hq r hr s z)
 obtain⟨x,hx⟩:=Classical.not_forall.mp this
 obtain⟨hx,nx⟩:=Classical.not_imp.mp hx
 have:=zSf (l:=x::q) (m:=r) (vP.mpr ⟨nx,c.nd q hq⟩) fun y hy=>by
  rcases xm.mp hy with rfl|hy
  ·exact hx
  ·exact s y hy
 exact this
theorem Cn.min (c:Cn rs):∀(n:Nat) (q:List α),q.length<=n->q∈rs->∃m,Mn rs m/\Sub m q
 | n,q,hn,hq=>by
  by_cases h:Mn rs q
  ·exact⟨q,h,fun _ h=>h⟩
  ·have:∃p∈rs,Sub p q/\p≠q:=by
    refine xW fun z=>h ⟨hq,fun p hp s=>xW fun e=>z ⟨p,hp,s,e⟩⟩
   obtain⟨p,hp,s,e⟩:=this
   have l:=c.lt hp hq s e
   match n,hn with
   | 0,hn=>lia
   | n+1,hn=>
    obtain⟨m,h1,h2⟩:=c.min n p (by nofun) hp
    exact⟨m,h1,fun x hx=>s x (h2 x hx)⟩
end
end RW
namespace DS
noncomputable section
open Classical
theorem zJb {n:Nat}:∀(S T:Store),keeps n S (S++T)
 | [],_=>trivial
 | a::S,T=>⟨.inl rfl,zJb S T⟩
theorem zHf {np nl:Nat}{b:SM}{ds:List D}{S T:Store}{d:D}(hl:ds.length=np) (h:b (ds.map some++List.replicate (nl-np) none) S=.rt d (S++T)) (lo:d.low S.length=true):zBp np nl b ds S=.ok d S:=by
 unfold zBp
 rw[xf hl,h]
 dsimp only
 unfold fin
 rw[xf (zJb S T),xf lo,List.take_left]
theorem zQi {α:Type}{h f:α->D}{gd:List (Nat × D)}{g:GM}{e:EM}{S:Store}{I:Env->Prop}(hg:gOk S gd):∀(xs:List α) (k:Nat) (env:Env),I env->k+xs.length<=most->
  (∀a∈xs,∀env,I env->∃env',g S (h a) env=some env'/\I env'/\e env' S=.ok (f a) S)->zCw gd g tYes e k (xs.map h) env S=.ok (xs.map f) S
 | [],k,env,_,_,_=>by rw[vf,zCw,xf hg];rfl
 | a::xs,k,env,hi,hk,he=>by
  have hk':k+(xs.length+1)<=most:=hk
  obtain⟨env',e1,e2,e3⟩:=he a (.head _) env hi
  rw[xt,zCw,xf ⟨hg,by nofun⟩,e1]
  dsimp only
  rw[tYes,Rs.bind_ok,xf rfl,e3,Rs.bind_ok,zQi (I:=I) hg xs (k+1) env' e2 (by nofun) fun b hb=>he b (.tail _ hb),Rs.bind_ok]
  rfl
theorem zB5 {α:Type}{h f:α->D}{own:Nat}{ix:List Nat}{i:IM}{gd:List (Nat × D)}{g:GM}{e:EM}{S:Store}{env:Env}{xs:List α}(I:Env->Prop) (hi:i env S=.ok ⟨xs.map h,gd⟩ S) (hg:gOk S gd) (h0:I (compEnv own ix env)) (hk:xs.length<=most)
  (he:∀a∈xs,∀env,I env->∃env',g S (h a) env=some env'/\I env'/\e env' S=.ok (f a) S):zAh own ix i g tYes e env S=.ok (.lst (xs.map f)) S:=by
 rw[zAh,hi,Rs.bind_ok]
 rw[zQi (I:=I) hg xs 0 _ h0 (by nofun) he,Rs.bind_ok]
theorem zQh {α:Type}{h f:α->D}{p:α->Bool}{gd:List (Nat × D)}{g:GM}{c:TM}{e:EM}{S:Store}{I:Env->Prop}(hg:gOk S gd):∀(xs:List α) (k:Nat) (env:Env),I env->k+xs.length<=most->
  (∀a∈xs,∀env,I env->∃env',g S (h a) env=some env'/\I env'/\c env' S=.ok (p a) S/\(p a=true->e env' S=.ok (f a) S))->zCw gd g c e k (xs.map h) env S=.ok ((xs.filter p).map f) S
 | [],k,env,_,_,_=>by rw[vf,zCw,xf hg];rfl
 | a::xs,k,env,hi,hk,he=>by
  have hk':k+(xs.length+1)<=most:=hk
  obtain⟨env',e1,i1,e2,e3⟩:=he a (.head _) env hi
  rw[xt,zCw,xf ⟨hg,by nofun⟩,e1]
  show(c env' S).bind _=_
  rw[e2,Rs.bind_ok]
  cases q:p a with
  | true=>
   rw[xf rfl,e3 q,Rs.bind_ok,zQh hg xs (k+1) env' i1 (by nofun) fun b hb=>he b (.tail _ hb),Rs.bind_ok,uP,xf q]
   rfl
  | false=>
   rw[xg (by decide),zQh hg xs k env' i1 (by nofun) fun b hb=>he b (.tail _ hb),uP,xg (by rw[q];decide)]
theorem zKt {α:Type}{h f:α->D}{p:α->Bool}{own:Nat}{ix:List Nat}{i:IM}{gd:List (Nat × D)}{g:GM}{c:TM}{e:EM}{S:Store}{env:Env}{xs:List α}(I:Env->Prop) (hi:i env S=.ok ⟨xs.map h,gd⟩ S) (hg:gOk S gd) (h0:I (compEnv own ix env)) (hk:xs.length<=most)
  (he:∀a∈xs,∀env,I env->∃env',g S (h a) env=some env'/\I env'/\c env' S=.ok (p a) S/\(p a=true->e env' S=.ok (f a) S)):zAh own ix i g c e env S=.ok (.lst ((xs.filter p).map f)) S:=by
 rw[zAh,hi,Rs.bind_ok]
 rw[zQh (I:=I) hg xs 0 _ h0 (by nofun) he,Rs.bind_ok]
theorem zH9 {α:Type}{h:α->D}{gd:List (Nat × D)}{g:GM}{b:SM}{ys:List α}(I:List α->Env->Store->Prop) (hg:∀P env S,I P env S->gOk S gd) (he:∀P a R,ys=P++a::R->∀env S,I P env S->∃env' env'' S',g S (h a) env=some env'/\b env' S=.nx env'' S'/\I (P++[a]) env'' S'):∀(xs P:List α) (env:Env) (S:Store),ys=P++xs->I P env S->∃env' S',forL gd g b (xs.map h) env S=.nx env' S'/\I ys env' S'
 | [],P,env,S,e,hi=>⟨env,S,by rw[vf,forL,xf (hg P env S hi)],by rw[e,v3];exact hi⟩
 | a::xs,P,env,S,e,hi=>by
  obtain⟨env',env'',S1,e1,e2,e3⟩:=he P a xs e env S hi
  obtain⟨e4,S2,e5,e6⟩:=zH9 (h:=h) (gd:=gd) (g:=g) (b:=b) (ys:=ys) I hg he xs (P++[a]) env'' S1 (by rw[e];simp) e3
  refine⟨e4,S2,?_,e6⟩
  rw[xt,forL,xf (hg P env S hi),e1]
  dsimp only
  rw[e2]
  exact e5
end
end DS
namespace DP
open DS RW
noncomputable section
open Classical
noncomputable abbrev Pt:=Int × Int
noncomputable abbrev cel (p:Pt):D:=.tup [.int p.1,.int p.2]
noncomputable abbrev rowD (r:List Pt):D:=.tup (r.map cel)
noncomputable abbrev zAa (R:List (List Pt)):D:=.tup (R.map rowD)
theorem zGe {p q:Pt}(h:cel p=cel q):p=q:=by
 have:=(List.cons.inj (D.tup.inj h))
 exact Prod.ext (D.int.inj this.1) (D.int.inj (List.cons.inj this.2).1)
theorem zEt {p:Pt}{l:List Pt}:cel p∈l.map cel <-> p∈l:=⟨fun h=>by obtain⟨q,hq,e⟩:=xq.mp h;rw[<- zGe e];exact hq,fun h=>xq.mpr ⟨p,h,rfl⟩⟩
theorem zU1 (p:Pt):lv 1 (cel p):=⟨_,rfl,fun x hx=>by
 rcases xm.mp hx with rfl|hx
 ·exact⟨p.1,rfl⟩
 ·exact⟨p.2,xF.mp hx⟩⟩
theorem zEu (l:List Pt):∀y∈l.map cel,lv 1 y:=fun y hy=>by obtain⟨p,_,rfl⟩:=xq.mp hy;exact zU1 p
theorem zZ8 (p:Pt) (l:List Pt):lvs (cel p::l.map cel):=⟨1,by decide,zEu (p::l)⟩
theorem zIi {l m:List Pt}(h:l.map cel=m.map cel):l=m:=(List.map_inj_right fun _ _ e=>zGe e).mp h
theorem zLi {q r:List Pt}(h:rowD q=rowD r):q=r:=zIi (D.tup.inj h)
theorem zZ3 {S:Store}{q r:List Pt}:neK S (rowD q) (rowD r)=some (.bl (decide (q≠r))):=by
 show(if lvs (q.map cel++r.map cel)then some (D.bl (!decide (q.map cel=r.map cel)))else none)=_
 rw[xf ⟨1,by decide,by rw[<- xX];exact zEu _⟩]
 congr 2
 rw[<- decide_not]
 exact xI.mpr (not_congr ⟨zIi,fun e=>by rw[e]⟩)
theorem zPp {S:Store}{p:Pt}{r:List Pt}:inK S (cel p) (rowD r)=some (.bl (decide (p∈r))):=by
 show((if lvs (cel p::r.map cel)then some (decide (cel p∈r.map cel))else none).map D.bl)=_
 rw[xf (zZ8 p r)]
 show some (D.bl _)=_
 congr 2
 exact xI.mpr zEt
theorem zEg {k:Nat}:∀(l:List Pt),lowL k (l.map cel)=true
 | []=>rfl
 | p::l=>by show((cel p).low k && lowL k (l.map cel))=true;rw[zEg l];rfl
theorem zDu {k:Nat}:∀(l:List (List Pt)),lowL k (l.map rowD)=true
 | []=>rfl
 | r::l=>by show((rowD r).low k && lowL k (l.map rowD))=true;rw[zDu l,show(rowD r).low k=true from zEg r];rfl
theorem zJ7 {k:Nat}{α:Type}{f:α->Int}:∀(l:List α),lowL k (l.map fun x=>.int (f x))=true
 | []=>rfl
 | p::l=>by show(true && lowL k (l.map fun x=>D.int (f x)))=true;rw[zJ7 l];rfl
theorem zA6 {a b:SM}{env e:Env}{S S1:Store}{r:SR}(h:a env S=.nx e S1) (h':b e S1=r):sSeq a b env S=r:=by rw[sSeq,h];exact h'
theorem tru {S:Store}{b:Bool}:truth S (.bl b)=some b:=rfl
theorem zGg {α:Type}{p:α->Bool}:∀l:List α,bools (l.map fun x=>D.bl (p x))=some (l.map p)
 | []=>rfl
 | a::l=>by
  have:=zGg (p:=p) l
  show(bools (l.map fun x=>D.bl (p x))).map (p a::·)=_
  rw[this];rfl
theorem zMg {α:Type}{S:Store}{p:α->Prop}[DecidablePred p] (l:List α) [Decidable (∀x∈l,p x)]:allB S [.lst (l.map fun x=>.bl (decide (p x)))]=some (.bl (decide (∀x∈l,p x))):=by
 show((bools (l.map fun x=>D.bl (decide (p x)))).map fun bs=>D.bl (bs.all id))=_
 rw[zGg]
 show some (D.bl _)=_
 congr 2
 rw[u5,vS,yd]
 simp
theorem zMf {α:Type}{S:Store}{p:α->Prop}[DecidablePred p] (l:List α) [Decidable (∃x∈l,p x)]:anyB S [.lst (l.map fun x=>.bl (decide (p x)))]=some (.bl (decide (∃x∈l,p x))):=by
 show((bools (l.map fun x=>D.bl (decide (p x)))).map fun bs=>D.bl (bs.any id))=_
 rw[zGg]
 show some (D.bl _)=_
 congr 2
 rw[u5,yn,yd]
 simp
theorem zEf {a b:Int}{m n k:Nat}(h:a.natAbs<=m) (h':b.natAbs<=n) (hk:m+n<=k):(a+b).natAbs<=k:=xk (Int.natAbs_add_le a b) (xk (Nat.add_le_add h h') hk)
theorem zFt {a b:Int}{m n k:Nat}(h:a.natAbs<=m) (h':b.natAbs<=n) (hk:m+n<=k):(a-b).natAbs<=k:=xk (Int.natAbs_sub_le a b) (xk (Nat.add_le_add h h') hk)
theorem na2 {p:Int × Int}{m n:Nat}(h:p.1.natAbs<=m/\p.2.natAbs<=m) (hk:m<=n):p.1.natAbs<=n/\p.2.natAbs<=n:=⟨xk h.1 hk,xk h.2 hk⟩
theorem zLr {a b:Int}{m n k:Nat}(h:a.natAbs<=m) (h':b.natAbs<=n) (hk:m*n<=k):(a*b).natAbs<=k:=by rw[uQ];exact xk (uc h h') hk
noncomputable def Bd (p:Pt):Prop:=p.1.natAbs<=1000000/\p.2.natAbs<=1000000
noncomputable def wt (s c:Pt):Int:=s.1*c.1+s.2*c.2
theorem sm6 {x:Int}(h:x.natAbs<=1000000):sm x:=zY0 (by nofun) (by nofun)
theorem mul6 {S:Store}{x y:Int}(h:x.natAbs<=1000000) (h':y.natAbs<=1000000):mulD S (.int x) (.int y)=some (.int (x*y)):=zFu ⟨sm6 h,sm6 h'⟩
theorem yA9 {s c:Pt}(h:Bd s) (h':Bd c):(wt s c).natAbs<=2000000000000:=by
 have h1:=uc h.1 h'.1
 have h2:=uc h.2 h'.2
 have:=Int.natAbs_add_le (s.1*c.1) (s.2*c.2)
 rw[uQ,uQ]at this
 unfold wt
 lia
theorem zR8 {S:Store}{s c:Pt}(h:Bd s) (h':Bd c):zG3 [cel s,cel c] S=.ok (.int (wt s c)) S:=by
 refine zCc rfl ?_ rfl
 unfold zL2
 simp_arith [mul6 h.1 h'.1,mul6 h.2 h'.2]
 rfl
noncomputable def fall (r:List Pt) (s:Pt):Int:=bst (fun a b=>a<b) ((r.map (wt s)).headD 0) (r.map (wt s)).tail
theorem zIc {S:Store}{r:List Pt}{s:Pt}(hr:r≠[]):minI S [.lst ((r.map (wt s)).map D.int)]=some (.int (fall r s)):=by
 cases r with
 | nil=>exact absurd rfl hr
 | cons a l=>
  show(match intsOf (((a::l).map (wt s)).map D.int)with|some (a::r)=>some (D.int (bst _ a r))|_=>none)=_
  rw[zDv]
  rfl
theorem zG2 {r:List Pt}{s:Pt}(hr:r≠[]):(∃c∈r,fall r s=wt s c)/\∀c∈r,fall r s<=wt s c:=by
 obtain⟨v,h1,h2,h3⟩:=zP9 (S:=[]) (xs:=r.map (wt s)) (by simpa using hr)
 rw[zIc hr]at h2
 have:fall r s=v:=D.int.inj (xJ h2)
 obtain⟨c,hc,e⟩:=xq.mp h1
 refine⟨⟨c,hc,by rw[this,e]⟩,fun c hc=>by rw[this];exact h3 _ (xq.mpr ⟨c,hc,rfl⟩)⟩
theorem zN8 {S:Store}{r:List Pt}{s:Pt}(hr:r≠[]) (hl:r.length<=1000) (hb:∀c∈r,Bd c) (hs:Bd s):zDm [rowD r,cel s] S=.ok (.int (fall r s)) S:=by
 have m9:1000<=most:=by decide
 refine zCc rfl ?_ rfl
 have c:(zAh 1 [1] (iVal (eVar 0)) (gName 0) tYes (zAg zG3 (zA0 (eVar 1) (zA0 (eVar 0) aNil)))) [some (rowD r),some (cel s)] S=.ok (.lst (r.map fun c=>.int (wt s c))) S:=by
  refine zB5 (xs:=r) (h:=cel) (gd:=[]) (fun env=>∃o,env=[o,some (cel s)]) ?_ zAi ⟨none,rfl⟩ (by nofun) ?_
  ·have w:zCa S (rowD r)=some ⟨r.map cel,[]⟩:=rfl
   simp only[iVal,eVar,uI,Rs.bind_ok,w,zAs]
  ·rintro x hx env ⟨o,rfl⟩
   exact⟨[some (cel x),some (cel s)],by simp_arith [xj],⟨_,rfl⟩,by simp_arith [zR8 hs (hb x hx)]⟩
 have mn:=zIc (S:=S) (s:=s) hr
 rw[xP]at mn
 show(sRet (eCB minI (zA0 _ aNil))) [some (rowD r),some (cel s)] S=_
 simp only[sRet,eCB,zA0,aNil,c,Rs.bind_ok,Rs.then_ok]
 rw[show(r.map fun c=>D.int (wt s c))=r.map (D.int ∘ wt s)from rfl,mn]
 rfl
theorem zI4:∀(ps:List (D × D)) (a:List D × List D) (x:D),x∈(putAll a ps).1 <-> x∈a.1\/∃p∈ps,x=p.1
 | [],a,x=>by show x∈a.1 <-> _;simp
 | p::ps,a,x=>by
  show x∈(putAll (put2 a.1 a.2 p.1 p.2) ps).1 <-> _
  rw[zI4 ps]
  have:x∈(put2 a.1 a.2 p.1 p.2).1 <-> x∈a.1\/x=p.1:=by
   unfold put2
   by_cases c:p.1∈a.1
   ·rw[xf c];exact⟨.inl,fun z=>z.elim id fun e=>by rw[e];exact c⟩
   ·rw[xg c];simp
  rw[this]
  simp only[xm,exists_eq_or_imp,or_assoc]
theorem low_iff {n:Nat}:∀{l:List D},lowL n l=true <-> ∀x∈l,x.low n=true
 | []=>⟨fun _ x hx=>(nomatch hx),fun _=>rfl⟩
 | a::l=>by
  show((a.low n && lowL n l)=true) <-> _
  rw[xM,low_iff (l:=l)]
  simp
theorem zLk {n:Nat}{k v:D}(hv:v.low n=true):∀(ks vs:List D),(∀x∈vs,x.low n=true)->∀x∈repl2 ks vs k v,x.low n=true
 | [],vs,h,x,hx=>by cases vs <;> exact absurd hx (by unfold repl2;simp)
 | a::r,[],h,x,hx=>absurd hx (by unfold repl2;simp)
 | a::r,w::t,h,x,hx=>by
  unfold repl2 at hx
  rcases xm.mp hx with e|e
  ·rw[e]
   by_cases c:a=k
   ·rw[xf c];exact hv
   ·rw[xg c];exact h w (.head _)
  ·exact zLk hv r t (fun y hy=>h y (.tail _ hy)) x e
theorem zOm {n:Nat}:∀(ps:List (D × D)) (a:List D × List D),(∀x∈a.2,x.low n=true)->(∀p∈ps,p.2.low n=true)->∀x∈(putAll a ps).2,x.low n=true
 | [],a,h,_=>h
 | p::ps,a,h,hp=>by
  refine zOm ps (put2 a.1 a.2 p.1 p.2) ?_ fun q hq=>hp q (.tail _ hq)
  unfold put2
  by_cases c:p.1∈a.1
  ·rw[xf c];exact zLk (hp p (.head _)) _ _ h
  ·rw[xg c]
   intro x hx
   rcases xG.mp hx with z|z
   ·exact h x z
   ·rw[xF.mp z];exact hp p (.head _)
theorem zGz:∀l:List Pt,pairsOf (l.map fun c=>.tup [cel c,.bl true])=some (l.map fun c=>(cel c,.bl true))
 | []=>rfl
 | p::l=>by
  show(if zCr true (cel p)=true then(pairsOf (l.map fun c=>D.tup [cel c,.bl true])).map ((cel p,D.bl true)::·)else none)=_
  rw[zGz l]
  rfl
theorem zPc {S:Store}{r:List Pt}(hl:r.length<=1000):∃ks vs,zD9 [rowD r] S=.ok (.dct true ks vs) S/\∀c:Pt,cel c∈ks <-> c∈r:=by
 have m9:1000<=most:=by decide
 have c:(zAh 1 [] (iVal (eVar 0)) (gName 0) tYes (eTup (zA0 (eVar 0) (zA0 (eC (.bl true)) aNil)))) [some (rowD r)] S=.ok (.lst (r.map fun c=>.tup [cel c,.bl true])) S:=by
  refine zB5 (xs:=r) (h:=cel) (gd:=[]) (fun env=>∃o,env=[o]) ?_ zAi ⟨none,rfl⟩ (by nofun) ?_
  ·have w:zCa S (rowD r)=some ⟨r.map cel,[]⟩:=rfl
   simp only[iVal,eVar,uI,Rs.bind_ok,w,zAs]
  ·rintro x hx env ⟨o,rfl⟩
   exact⟨[some (cel x)],by simp_arith [xj],⟨_,rfl⟩,by simp_arith [xj]⟩
 have km:∀x,x∈(putAll ([],[]) (r.map fun c=>(cel c,D.bl true))).1->∃c∈r,x=cel c:=fun x hx=>by
  rcases(zI4 _ _ x).mp hx with z|⟨p,hp,e⟩
  ·cases z
  ·obtain⟨q,hq,e2⟩:=xq.mp hp
   exact⟨q,hq,by rw[e,<- e2]⟩
 have dp:zQ5 S [.lst (r.map fun c=>.tup [cel c,.bl true])]=some (.dct true (putAll ([],[]) (r.map fun c=>(cel c,D.bl true))).1 (putAll ([],[]) (r.map fun c=>(cel c,D.bl true))).2):=by
  show(match pairsOf (r.map fun c=>.tup [cel c,.bl true])with|some ps=>if ps.length<=most then some (D.dct true (putAll ([],[]) ps).1 (putAll ([],[]) ps).2)else none|none=>none)=_
  rw[zGz]
  show(if(r.map fun c=>(cel c,D.bl true)).length<=most then _ else none)=_
  rw[xf (by rw[xp];lia)]
 refine⟨(putAll ([],[]) (r.map fun c=>(cel c,D.bl true))).1,(putAll ([],[]) (r.map fun c=>(cel c,D.bl true))).2,zCc rfl ?_ ?_,fun c=>⟨fun h=>?_,fun h=>?_⟩⟩
 ·show(sRet (eCB zQ5 (zA0 _ aNil))) [some (rowD r)] S=_
  simp only[sRet,eCB,zA0,aNil,c,Rs.bind_ok,Rs.then_ok,dp,zAs]
 ·show(lowL S.length _ && lowL S.length _)=true
  rw[low_iff.mpr fun x hx=>(by obtain⟨c,_,rfl⟩:=km x hx;rfl),low_iff.mpr (zOm _ _ (fun x hx=>absurd hx (by simp)) fun p hp=>by obtain⟨c,_,rfl⟩:=xq.mp hp;rfl)]
  rfl
 ·obtain⟨q,hq,e⟩:=km _ h
  rw[zGe e];exact hq
 ·exact(zI4 _ _ _).mpr (.inr ⟨(cel c,.bl true),xq.mpr ⟨c,h,rfl⟩,rfl⟩)
end
end DP
namespace DP
open DS RW
noncomputable section
open Classical
theorem zJe {t:TM}{a b:SM}{env:Env}{S:Store}{q:SR}(h:t env S=.ok false S) (h2:b env S=q):sIf t a b env S=q:=by
 rw[sIf,h,Rs.then_ok,xg (by decide)];exact h2
theorem zPq {t:TM}{a b:SM}{env:Env}{S:Store}{q:SR}(h:t env S=.ok true S) (h2:a env S=q):sIf t a b env S=q:=by
 rw[sIf,h,Rs.then_ok,xf rfl];exact h2
theorem zEa {t:TM}{a b:SM}{env:Env}{S:Store}{p:Prop}[Decidable p] (h:t env S=.ok (decide p) S):sIf t a b env S=if p then a env S else b env S:=by
 rw[sIf,h,Rs.then_ok]
 by_cases c:p
 ·rw[xf c,xf (xv c)]
 ·rw[xg c,xg (by simpa using c)]
theorem zIa {α:Type}{h:α->D}{g:GM}{b:SM}{S:Store}{v:D}(I:Env->Prop) (P:α->Prop):∀(xs:List α) (env:Env),I env->
  (∀a∈xs,∀env,I env->∃env',g S (h a) env=some env'/\((P a/\b env' S=.rt v S)\/(¬ P a/\∃env'',b env' S=.nx env'' S/\I env'')))->
  ((∃a∈xs,P a)/\forL [] g b (xs.map h) env S=.rt v S)\/((¬ ∃a∈xs,P a)/\∃env',forL [] g b (xs.map h) env S=.nx env' S/\I env')
 | [],env,hi,_=>.inr ⟨(fun⟨a,ha,_⟩=>by cases ha),env,by rw[vf,forL,xf zAi],hi⟩
 | a::xs,env,hi,he=>by
  obtain⟨env',e1,e2⟩:=he a (.head _) env hi
  rcases e2 with⟨p,e2⟩|⟨np,env'',e2,i2⟩
  ·refine .inl ⟨⟨a,.head _,p⟩,?_⟩
   rw[xt,forL,xf zAi,e1]
   dsimp only
   rw[e2]
  ·rcases zIa (g:=g) (b:=b) (v:=v) (h:=h) I P xs env'' i2 fun c hc=>he c (.tail _ hc)with⟨⟨c,hc,pc⟩,e3⟩|⟨n,e4,e3,i3⟩
   ·refine .inl ⟨⟨c,.tail _ hc,pc⟩,?_⟩
    rw[xt,forL,xf zAi,e1]
    dsimp only
    rw[e2]
    exact e3
   ·refine .inr ⟨fun hq1=>?_,e4,?_,i3⟩
    ·obtain⟨c,hc,pc⟩:=hq1
     rcases xm.mp hc with z|z
     ·exact np (z ▸ pc)
     ·exact n ⟨c,z,pc⟩
    ·rw[xt,forL,xf zAi,e1]
     dsimp only
     rw[e2]
     exact e3
noncomputable def Met (P:List (List Pt)) (r:List Pt):Prop:=∀b∈P,∃c∈b,c∈r
structure TyP (P:List (List Pt)):Prop where
 pl:P.length<=1000
 bl:∀b∈P,b.length<=1000
structure Ty (R:List (List Pt)) (sl:List Pt):Prop where
 rl:R.length<=100
 sn:sl.length<=100
 ne:∀r∈R,r≠[]
 ln:∀r∈R,r.length<=1000
 bd:∀r∈R,∀c∈r,Bd c
 sb:∀s∈sl,Bd s
theorem zHj {S:Store}{l:List D}:zCa S (.tup l)=some ⟨l,[]⟩:=rfl
theorem zFa {S:Store}{l:List D}:zCa S (.lst l)=some ⟨l,[]⟩:=rfl
theorem zB9 {e:EM}{env:Env}{S:Store}{l:List D}(h:e env S=.ok (.tup l) S):iVal e env S=.ok ⟨l,[]⟩ S:=by rw[iVal,h,Rs.bind_ok,zHj];rfl
theorem zI7 {S:Store}{P:List (List Pt)}{r:List Pt}(hP:TyP P) (hl:r.length<=1000):zBu [zAa P,rowD r] S=.ok (.bl (decide (Met P r))) S:=by
 have m9:1000<=most:=by decide
 obtain⟨ks,vs,e1,km⟩:=zPc (S:=S) hl
 refine zCc rfl ?_ rfl
 have inn:∀b∈P,(zAh 1 [1] (iVal (eVar 0)) (gName 0) tYes (eOp inK (eVar 0) (eVar 1))) [some (rowD b),some (.dct true ks vs)] S=.ok (.lst (b.map fun c=>.bl (decide (c∈r)))) S:=fun b hb=>by
  refine zB5 (xs:=b) (h:=cel) (gd:=[]) (fun env=>∃o,env=[o,some (.dct true ks vs)]) (zB9 rfl) zAi ⟨none,rfl⟩ (xk (hP.bl b hb) m9) ?_
  rintro x hx env ⟨o,rfl⟩
  have i:inK S (cel x) (.dct true ks vs)=some (.bl (decide (x∈r))):=by
   show((if zCr true (cel x)=true then some (decide (cel x∈ks))else none).map D.bl)=_
   rw[xf (show zCr true (cel x)=true from rfl)]
   show some (D.bl _)=_
   congr 2
   exact xI.mpr (km x)
  exact⟨[some (cel x),some (.dct true ks vs)],by simp_arith [xj],⟨_,rfl⟩,by simp_arith [i]⟩
 have out:(zAh 1 [2] (iVal (eVar 0)) (gName 0) tYes (eCB anyB (zA0 (zAh 1 [1] (iVal (eVar 0)) (gName 0) tYes (eOp inK (eVar 0) (eVar 1))) aNil))) [some (zAa P),some (rowD r),some (.dct true ks vs)] S=.ok (.lst (P.map fun b=>.bl (decide (∃c∈b,c∈r)))) S:=by
  refine zB5 (xs:=P) (h:=rowD) (gd:=[]) (fun env=>∃o,env=[o,some (.dct true ks vs)]) (zB9 rfl) zAi ⟨none,rfl⟩ (xk hP.pl m9) ?_
  rintro b hb env ⟨o,rfl⟩
  refine⟨[some (rowD b),some (.dct true ks vs)],by simp_arith [xj],⟨_,rfl⟩,?_⟩
  rw[eCB,zA0,inn b hb,Rs.bind_ok,aNil,Rs.bind_ok,Rs.bind_ok,zMf (p:=fun c=>c∈r)]
  rfl
 refine zA6 (e:=[some (zAa P),some (rowD r),some (.dct true ks vs)]) (S1:=S) (by simp_arith [e1]) ?_
 rw[sRet,eCB,zA0,out,Rs.bind_ok,aNil,Rs.bind_ok,Rs.bind_ok,zMg (p:=fun b=>∃c∈b,c∈r)]
 show SR.rt _ _=_
 congr 2
 exact xI.mpr Iff.rfl
theorem zXw {S:Store}{xs:List Int}(hl:xs.length<=1000) (hb:∀x∈xs,x.natAbs<=2000000000000):sumI S [.lst (xs.map D.int)]=some (.int xs.sum):=by
 show(match lstI S (.lst (xs.map D.int))with|some xs=>if xs.length<=1000/\∀x∈xs,x.natAbs<=2 ^ 50 then some (D.int xs.sum)else none|none=>none)=_
 rw[zSk]
 show(if xs.length<=1000/\∀x∈xs,x.natAbs<=2 ^ 50 then some (D.int xs.sum)else none)=_
 rw[xf ⟨hl,fun x hx=>xk (hb x hx) (by decide)⟩]
theorem bd12 {x:Int}(h:x.natAbs<=1000000):x.natAbs<=2000000000000:=by nofun
theorem zFm {S:Store}{α:Type}{f:α->Int}{l:List α}(hl:l.length<=1000) (hb:∀a∈l,(f a).natAbs<=2000000000000):sumI S [.lst (l.map fun a=>.int (f a))]=some (.int (l.map f).sum):=by
 have:=zXw (S:=S) (xs:=l.map f) (by rw[xp];exact hl) fun x hx=>by obtain⟨a,ha,rfl⟩:=xq.mp hx;exact hb a ha
 rw[xP]at this
 exact this
noncomputable abbrev sX (sl:List Pt):Int:=(sl.map Prod.fst).sum
noncomputable abbrev sY (sl:List Pt):Int:=(sl.map Prod.snd).sum
theorem eq_int {S:Store}{x y:Int}:eqI S (.int x) (.int y)=some (.bl (decide (x=y))):=rfl
theorem ne_int {S:Store}{x y:Int}:neK S (.int x) (.int y)=some (.bl (decide (x≠y))):=by
 show some (D.bl (!decide (x=y)))=_
 rw[<- decide_not]
theorem gt_int {S:Store}{x y:Int}:gtD S (.int x) (.int y)=some (.bl (decide (y<x))):=rfl
theorem ge_int {S:Store}{x y:Int}:geD S (.int x) (.int y)=some (.bl (decide (y<=x))):=rfl
theorem le_int {S:Store}{x y:Int}:leD S (.int x) (.int y)=some (.bl (decide (x<=y))):=rfl
theorem lt_int {S:Store}{x y:Int}:ltI S (.int x) (.int y)=some (.bl (decide (x<y))):=rfl
theorem zC9 {S:Store}{l:List D}:lenB S [.tup l]=some (.int (l.length:Nat)):=rfl
theorem zJd {S:Store}{sl:List Pt}(hl:sl.length<=100) (hb:∀s∈sl,Bd s):zCj [rowD sl] S=.ok (.bl (decide (sX sl=0/\sY sl=0))) S:=by
 have m9:100<=most:=by decide
 refine zCc rfl ?_ rfl
 have c0:(zAh 1 [] (iVal (eVar 0)) (gName 0) tYes (eOp ixD (eVar 0) (eC (.int 0)))) [some (rowD sl)] S=.ok (.lst (sl.map fun s=>.int s.1)) S:=by
  refine zB5 (xs:=sl) (h:=cel) (gd:=[]) (fun env=>∃o,env=[o]) (zB9 rfl) zAi ⟨none,rfl⟩ (xk hl m9) ?_
  rintro x hx env ⟨o,rfl⟩
  exact⟨[some (cel x)],by simp_arith [xj],⟨_,rfl⟩,by simp_arith [xj]⟩
 have c1:(zAh 1 [] (iVal (eVar 0)) (gName 0) tYes (eOp ixD (eVar 0) (eC (.int 1)))) [some (rowD sl)] S=.ok (.lst (sl.map fun s=>.int s.2)) S:=by
  refine zB5 (xs:=sl) (h:=cel) (gd:=[]) (fun env=>∃o,env=[o]) (zB9 rfl) zAi ⟨none,rfl⟩ (xk hl m9) ?_
  rintro x hx env ⟨o,rfl⟩
  exact⟨[some (cel x)],by simp_arith [xj],⟨_,rfl⟩,by simp_arith [xj]⟩
 have s0:=zFm (S:=S) (f:=fun s:Pt=>s.1) (l:=sl) (by nofun) fun s hs=>bd12 (hb s hs).1
 have s1:=zFm (S:=S) (f:=fun s:Pt=>s.2) (l:=sl) (by nofun) fun s hs=>bd12 (hb s hs).2
 have t0:eOp eqI (eCB sumI (zA0 (zAh 1 [] (iVal (eVar 0)) (gName 0) tYes (eOp ixD (eVar 0) (eC (.int 0)))) aNil)) (eC (.int 0)) [some (rowD sl)] S=.ok (.bl (decide (sX sl=0))) S:=by
  simp only[eOp,eCB,zA0,c0,aNil,Rs.bind_ok,s0,zAs,eC,eq_int]
 have t1:eOp eqI (eCB sumI (zA0 (zAh 1 [] (iVal (eVar 0)) (gName 0) tYes (eOp ixD (eVar 0) (eC (.int 1)))) aNil)) (eC (.int 0)) [some (rowD sl)] S=.ok (.bl (decide (sY sl=0))) S:=by
  simp only[eOp,eCB,zA0,c1,aNil,Rs.bind_ok,s1,zAs,eC,eq_int]
 show(sRet (eAnd _ _)) [some (rowD sl)] S=_
 rw[sRet,eAnd,t0,Rs.bind_ok]
 show((if decide (sX sl=0)=true then _ else _):Rs D).then _=_
 by_cases c:sX sl=0
 ·rw[xf (xv c),t1,Rs.then_ok]
  congr 2
  exact xI.mpr ⟨fun z=>⟨c,z⟩,fun z=>z.2⟩
 ·rw[xg (by simpa using c),Rs.then_ok]
  congr 2
  exact(xu fun z=>c z.1).symm
noncomputable def falls (R:List (List Pt)) (sl:List Pt):List Int:=(R.zip sl).map fun a=>fall a.1 a.2
theorem zTg {S:Store}{R:List (List Pt)}{sl:List Pt}:zipW true true S [zAa R,rowD sl]=some ⟨(R.zip sl).map fun a=>.tup [rowD a.1,cel a.2],[]⟩:=by
 show(if true=true/\true=true then some (Walk.mk (((R.map rowD).zip (sl.map cel)).map fun p=>D.tup [p.1,p.2]) ([]++[]))else none)=_
 rw[xf ⟨rfl,rfl⟩,List.zip_map,xP]
 rfl
noncomputable abbrev papD (R:List (List Pt)) (sl:List Pt):D:=.tup [.str (PySem.Str.ofString "heals"),zAa R,rowD sl]
theorem zT0 {S:Store}{R:List (List Pt)}{sl:List Pt}(h:Ty R sl):zD2 [papD R sl] S=.ok (.lst ((R.zip sl).map fun a=>.int (fall a.1 a.2))) S:=by
 have m9:100<=most:=by decide
 refine zCc rfl ?_ (zJ7 _)
 have c:(zAh 2 [] (iZp true true (zA0 (eOp ixD (eVar 0) (eC (.int 1))) (zA0 (eOp ixD (eVar 0) (eC (.int 2))) aNil))) (gTup [(gName 0),(gName 1)]) tYes (zAg zDm (zA0 (eVar 0) (zA0 (eVar 1) aNil)))) [some (papD R sl)] S=.ok (.lst ((R.zip sl).map fun a=>.int (fall a.1 a.2))) S:=by
  refine zB5 (xs:=R.zip sl) (h:=fun a=>.tup [rowD a.1,cel a.2]) (gd:=[]) (fun env=>∃o p,env=[o,p]) ?_ zAi ⟨none,none,rfl⟩ (by rw[yb];have:=h.rl;lia) ?_
  ·simp_arith [iZp,zTg]
  ·rintro a ha env ⟨o,p,rfl⟩
   have m:=uW (show(a.1,a.2)∈R.zip sl from ha)
   exact⟨[some (rowD a.1),some (cel a.2)],by simp_arith [xj],⟨_,_,rfl⟩,by simp_arith [zN8 (h.ne _ m.1) (h.ln _ m.1) (h.bd _ m.1) (h.sb _ m.2)]⟩
 show(sRet _) [some (papD R sl)] S=_
 rw[sRet,c,Rs.then_ok]
end
end DP
namespace DP
open DS RW
noncomputable section
open Classical
structure Hld (P R:List (List Pt)) (sl:List Pt):Prop where
 ln:R.length=sl.length
 lo:1<=R.length
 hi:R.length<=8
 met:∀r∈R,Met P r
 sx:sX sl=0
 sy:sY sl=0
 fl:1<=(falls R sl).sum
theorem zK8 {S:Store}{x:PySem.Str}:neK S (.str x) (.str x)=some (.bl false):=by
 show some (D.bl (!decide (x=x)))=_
 rw[xv rfl];rfl
theorem zLb {a b:TM}{env:Env}{S:Store}{p q:Prop}[Decidable p] [Decidable q] [Decidable (p\/q)] (h1:a env S=.ok (decide p) S) (h2:b env S=.ok (decide q) S):tOr a b env S=.ok (decide (p\/q)) S:=by
 rw[tOr,h1,Rs.bind_ok]
 by_cases c:p
 ·rw[xf (xv c),xv (p:=p\/q) (.inl c)]
 ·rw[xg (by simpa using c),h2]
  congr 1
  exact xI.mpr ⟨.inr,fun z=>z.resolve_left c⟩
theorem zHm {a:TM}{env:Env}{S:Store}{p:Prop}[Decidable p] [Decidable (¬ p)] (h1:a env S=.ok (decide p) S):tNot a env S=.ok (decide (¬ p)) S:=by
 rw[tNot,h1,Rs.bind_ok]
 congr 1
 by_cases c:p
 ·rw[xv c,xu (fun z=>z c)];rfl
 ·rw[xu c,xv c];rfl
theorem zJg {S:Store}{R:List (List Pt)}{sl:List Pt}(h:Ty R sl):sumI S [.lst ((R.zip sl).map fun a=>.int (fall a.1 a.2))]=some (.int (falls R sl).sum):=by
 refine zFm (f:=fun a:List Pt × Pt=>fall a.1 a.2) (by rw[yb];have:=h.rl;lia) fun a ha=>?_
 have m:=uW (show(a.1,a.2)∈R.zip sl from ha)
 obtain⟨c,hc,e⟩:=(zG2 (s:=a.2) (h.ne _ m.1)).1
 rw[e]
 exact yA9 (h.sb _ m.2) (h.bd _ m.1 c hc)
theorem zFh {S:Store}{P R:List (List Pt)}{sl:List Pt}(hP:TyP P) (h:Ty R sl):zAk [zAa P,papD R sl] S=.ok (.bl (decide (Hld P R sl))) S:=by
 have m9:100<=most:=by decide
 refine zCc rfl ?_ rfl
 have x1:(sIf (tOr (tB (eOp neK (eCB lenB (zA0 (eVar 1) aNil)) (eC (.int 3)))) (tB (eOp neK (eOp ixD (eVar 1) (eC (.int 0))) (eC (.str (PySem.Str.ofString "heals")))))) (sRet (eC (.bl false))) zAv) [some (zAa P),some (papD R sl),none,none] S=.nx [some (zAa P),some (papD R sl),none,none] S:=by
  have l3:neK S (.int ((3:Nat):Int)) (.int 3)=some (.bl false):=rfl
  refine zJe ?_ rfl
  simp_arith [zC9,l3,zK8]
 refine zA6 x1 (zA6 (e:=[some (zAa P),some (papD R sl),some (zAa R),none]) (S1:=S) (by simp_arith [xj]) (zA6 (e:=[some (zAa P),some (papD R sl),some (zAa R),some (rowD sl)]) (S1:=S) (by simp_arith [xj]) ?_))
 have lR:lenB S [zAa R]=some (.int (R.length:Nat)):=by rw[zC9,xp]
 have lS:lenB S [rowD sl]=some (.int (sl.length:Nat)):=by rw[zC9,xp]
 have t1:tB (eOp neK (eCB lenB (zA0 (eVar 2) aNil)) (eCB lenB (zA0 (eVar 3) aNil))) [some (zAa P),some (papD R sl),some (zAa R),some (rowD sl)] S=.ok (decide (R.length≠sl.length)) S:=by
  simp_arith [lR,lS,ne_int]
  congr 1
  exact xI.mpr (by nofun)
 have t2:tB (zJl leD leD (eC (.int 1)) (eCB lenB (zA0 (eVar 2) aNil)) (eC (.int 8))) [some (zAa P),some (papD R sl),some (zAa R),some (rowD sl)] S=.ok (decide (1<=R.length/\R.length<=8)) S:=by
  simp_arith [zJl,lR,le_int]
  by_cases c:(1:Int)<=(R.length:Nat)
  ·rw[xf (xv c)]
   simp_arith [xj]
   congr 1
   exact xI.mpr (by nofun)
  ·rw[xg (by simpa using c)]
   simp_arith [xj]
   congr 1
   exact(xu (by nofun)).symm
 have t12:=zLb t1 (zHm t2)
 rw[sSeq,zEa t12]
 by_cases c:R.length≠sl.length\/¬ (1<=R.length/\R.length<=8)
 ·rw[xf c]
  show SR.rt (.bl false) S=_
  congr 2
  exact(xu fun z=>c.elim (fun q=>q z.ln) fun q=>q ⟨z.lo,z.hi⟩).symm
 rw[xg c]
 have c1:R.length=sl.length:=xW fun z=>c (.inl z)
 have c2:1<=R.length/\R.length<=8:=xW fun z=>c (.inr z)
 have cm:(zAh 1 [0] (iVal (eVar 2)) (gName 0) tYes (zAg zBu (zA0 (eVar 1) (zA0 (eVar 0) aNil)))) [some (zAa P),some (papD R sl),some (zAa R),some (rowD sl)] S=.ok (.lst (R.map fun r=>.bl (decide (Met P r)))) S:=by
  refine zB5 (xs:=R) (h:=rowD) (gd:=[]) (fun env=>∃o,env=[o,some (zAa P)]) (zB9 rfl) zAi ⟨none,rfl⟩ (xk h.rl m9) ?_
  rintro r hr env ⟨o,rfl⟩
  exact⟨[some (rowD r),some (zAa P)],by simp_arith [xj],⟨_,rfl⟩,by simp_arith [zI7 hP (h.ln r hr)]⟩
 have t3:tTru (eCB allB (zA0 (zAh 1 [0] (iVal (eVar 2)) (gName 0) tYes (zAg zBu (zA0 (eVar 1) (zA0 (eVar 0) aNil)))) aNil)) [some (zAa P),some (papD R sl),some (zAa R),some (rowD sl)] S=.ok (decide (∀r∈R,Met P r)) S:=by
  rw[tTru,eCB,zA0,cm,Rs.bind_ok,aNil,Rs.bind_ok,Rs.bind_ok,zMg (p:=fun r=>Met P r)]
  rfl
 show sSeq _ _ _ _=_
 rw[sSeq,zEa (zHm t3)]
 by_cases d:¬ ∀r∈R,Met P r
 ·rw[xf d]
  show SR.rt (.bl false) S=_
  congr 2
  exact(xu fun z=>d z.met).symm
 rw[xg d]
 have d':∀r∈R,Met P r:=xW d
 have i1:zAg zCj (zA0 (eVar 3) aNil) [some (zAa P),some (papD R sl),some (zAa R),some (rowD sl)] S=.ok (.bl (decide (sX sl=0/\sY sl=0))) S:=by simp_arith [zJd h.sn h.sb]
 have i2:eOp geD (eCB sumI (zA0 (zAg zD2 (zA0 (eVar 1) aNil)) aNil)) (eC (.int 1)) [some (zAa P),some (papD R sl),some (zAa R),some (rowD sl)] S=.ok (.bl (decide (1<=(falls R sl).sum))) S:=by simp_arith [zT0 h,zJg h,ge_int]
 show(sRet (eAnd _ _)) _ _=_
 rw[sRet,eAnd,i1,Rs.bind_ok]
 show((if decide (sX sl=0/\sY sl=0)=true then _ else _):Rs D).then _=_
 by_cases e:sX sl=0/\sY sl=0
 ·rw[xf (xv e),i2,Rs.then_ok]
  congr 2
  exact xI.mpr ⟨fun z=>⟨c1,c2.1,c2.2,d',e.1,e.2,z⟩,fun z=>z.fl⟩
 ·rw[xg (by simpa using e),Rs.then_ok]
  congr 2
  exact(xu fun z=>e ⟨z.sx,z.sy⟩).symm
end
end DP
namespace DP
open DS RW
noncomputable section
open Classical
noncomputable abbrev hE (P R:List (List Pt)) (sl:List Pt) (o5 o6 o7:Option D):Env:=[some (zAa P),some (papD R sl),some (.str (PySem.Str.ofString "heals")),some (zAa R),some (rowD sl),o5,o6,o7]
noncomputable abbrev hAny:EM:=(eCB anyB (zA0 (zAh 1 [6] (iVal (eVar 5)) (gName 0) tYes (eOp inK (eVar 0) (eVar 1))) aNil))
noncomputable abbrev hB1:SM:=(sIf (tNot (tTru hAny)) (sRet (eC (.bl false))) zAv)
noncomputable abbrev hB2:SM:=(sFor (iVal (eVar 0)) (gName 6) hB1)
theorem yA6 {S:Store}{P R:List (List Pt)}{sl r b:List Pt}{o7:Option D}(hl:r.length<=1000):tTru hAny (hE P R sl (some (rowD r)) (some (rowD b)) o7) S=.ok (decide (∃c∈r,c∈b)) S:=by
 have m9:1000<=most:=by decide
 have c:(zAh 1 [6] (iVal (eVar 5)) (gName 0) tYes (eOp inK (eVar 0) (eVar 1))) (hE P R sl (some (rowD r)) (some (rowD b)) o7) S=.ok (.lst (r.map fun c=>.bl (decide (c∈b)))) S:=by
  refine zB5 (xs:=r) (h:=cel) (gd:=[]) (fun env=>∃o,env=[o,some (rowD b)]) (zB9 rfl) zAi ⟨none,rfl⟩ (xk hl m9) ?_
  rintro x hx env ⟨o,rfl⟩
  exact⟨[some (cel x),some (rowD b)],by simp_arith [xj],⟨_,rfl⟩,by simp_arith [zPp]⟩
 rw[tTru,hAny,eCB,zA0,c,Rs.bind_ok,aNil,Rs.bind_ok,Rs.bind_ok,zMf (p:=fun c=>c∈b)]
 rfl
theorem nMet {P:List (List Pt)}{r:List Pt}:(∃b∈P,¬ ∃c∈r,c∈b) <-> ¬ Met P r:=by
 unfold Met
 constructor
 ·rintro⟨b,hb,n⟩ z
  obtain⟨c,h1,h2⟩:=z b hb
  exact n ⟨c,h2,h1⟩
 ·intro n
  refine xW fun z=>n fun b hb=>xW fun w=>z ⟨b,hb,fun hz3=>by obtain⟨c,h1,h2⟩:=hz3;exact w ⟨c,h2,h1⟩⟩
theorem yBw {S:Store}{P R:List (List Pt)}{sl r:List Pt}{o6 o7:Option D}(hl:r.length<=1000):(¬ Met P r/\hB2 (hE P R sl (some (rowD r)) o6 o7) S=.rt (.bl false) S)\/(Met P r/\∃o6',hB2 (hE P R sl (some (rowD r)) o6 o7) S=.nx (hE P R sl (some (rowD r)) o6' o7) S):=by
 have w:hB2 (hE P R sl (some (rowD r)) o6 o7) S=forL [] (gName 6) hB1 (P.map rowD) (hE P R sl (some (rowD r)) o6 o7) S:=by
  rw[hB2,sFor,zB9 (show eVar 0 (hE P R sl (some (rowD r)) o6 o7) S=.ok (zAa P) S from rfl),Rs.then_ok]
 rw[w]
 rcases zIa (h:=rowD) (g:=gName 6) (b:=hB1) (S:=S) (v:=.bl false) (fun env=>∃o,env=hE P R sl (some (rowD r)) o o7) (fun b=>¬ ∃c∈r,c∈b) P (hE P R sl (some (rowD r)) o6 o7) ⟨_,rfl⟩ (fun b hb env he=>by
  obtain⟨o,rfl⟩:=he
  refine⟨hE P R sl (some (rowD r)) (some (rowD b)) o7,by simp_arith [xj],?_⟩
  have t:=yA6 (S:=S) (P:=P) (R:=R) (sl:=sl) (b:=b) (o7:=o7) hl
  rw[hB1,zEa (zHm t)]
  by_cases c:¬ ∃c∈r,c∈b
  ·rw[xf c]
   exact .inl ⟨c,rfl⟩
  ·rw[xg c]
   exact .inr ⟨c,_,rfl,_,rfl⟩)with⟨x,e⟩|⟨x,env',e,o,rfl⟩
 ·exact .inl ⟨nMet.mp x,e⟩
 ·exact .inr ⟨xW fun z=>x (nMet.mpr z),_,e⟩
theorem yBv {S:Store}{P R:List (List Pt)}{sl:List Pt}(h:Ty R sl):((∃r∈R,¬ Met P r)/\sFor (iVal (eVar 3)) (gName 5) hB2 (hE P R sl none none none) S=.rt (.bl false) S)\/((¬ ∃r∈R,¬ Met P r)/\∃o5 o6,sFor (iVal (eVar 3)) (gName 5) hB2 (hE P R sl none none none) S=.nx (hE P R sl o5 o6 none) S):=by
 have w:sFor (iVal (eVar 3)) (gName 5) hB2 (hE P R sl none none none) S=forL [] (gName 5) hB2 (R.map rowD) (hE P R sl none none none) S:=by
  rw[sFor,zB9 (show eVar 3 (hE P R sl none none none) S=.ok (zAa R) S from rfl),Rs.then_ok]
 rw[w]
 rcases zIa (h:=rowD) (g:=gName 5) (b:=hB2) (S:=S) (v:=.bl false) (fun env=>∃o p,env=hE P R sl o p none) (fun r=>¬ Met P r) R (hE P R sl none none none) ⟨_,_,rfl⟩ (fun r hr env he=>by
  obtain⟨o,p,rfl⟩:=he
  refine⟨hE P R sl (some (rowD r)) p none,by simp_arith [xj],?_⟩
  rcases yBw (S:=S) (P:=P) (R:=R) (sl:=sl) (o6:=p) (o7:=none) (h.ln r hr)with⟨a,e⟩|⟨a,o',e⟩
  ·exact .inl ⟨a,e⟩
  ·exact .inr ⟨fun z=>z a,_,e,_,_,rfl⟩)with⟨x,e⟩|⟨x,env',e,o,p,rfl⟩
 ·exact .inl ⟨x,e⟩
 ·exact .inr ⟨x,_,_,e⟩
theorem zI8 {S:Store}{P R:List (List Pt)}{sl:List Pt}(h:Ty R sl):zB2 [zAa P,papD R sl] S=.ok (.bl (decide (Hld P R sl))) S:=by
 have m9:100<=most:=by decide
 refine zCc rfl ?_ rfl
 refine zA6 (e:=(hE P R sl none none none)) (S1:=S) (by simp_arith [sUnp]) ?_
 have lR:lenB S [zAa R]=some (.int (R.length:Nat)):=by rw[zC9,xp]
 have lS:lenB S [rowD sl]=some (.int (sl.length:Nat)):=by rw[zC9,xp]
 have t1:tB (eOp neK (eCB lenB (zA0 (eVar 3) aNil)) (eCB lenB (zA0 (eVar 4) aNil))) (hE P R sl none none none) S=.ok (decide (R.length≠sl.length)) S:=by
  simp_arith [lR,lS,ne_int]
  congr 1
  exact xI.mpr (by nofun)
 have t2:tB (eOp ltI (eCB lenB (zA0 (eVar 3) aNil)) (eC (.int 1))) (hE P R sl none none none) S=.ok (decide (R.length<1)) S:=by
  simp_arith [lR,lt_int]
  congr 1
  exact xI.mpr (by nofun)
 have t3:tB (eOp gtD (eCB lenB (zA0 (eVar 3) aNil)) (eC (.int 8))) (hE P R sl none none none) S=.ok (decide (8<R.length)) S:=by
  simp_arith [lR,gt_int]
  congr 1
  exact xI.mpr (by nofun)
 have t12:=zLb t1 (zLb t2 t3)
 rw[sSeq,zEa t12]
 by_cases c:R.length≠sl.length\/R.length<1\/8<R.length
 ·rw[xf c]
  show SR.rt (.bl false) S=_
  congr 2
  exact(xu fun z=>by have:=z.ln;have:=z.lo;have:=z.hi;lia).symm
 rw[xg c]
 show sSeq _ _ _ _=_
 rcases yBv (S:=S) (P:=P) h with⟨x,e⟩|⟨x,o5,o6,e⟩
 ·rw[sSeq]
  rw[show(sFor (iVal (eVar 3)) (gName 5) (sFor (iVal (eVar 0)) (gName 6) (sIf (tNot (tTru (eCB anyB (zA0 (zAh 1 [6] (iVal (eVar 5)) (gName 0) tYes (eOp inK (eVar 0) (eVar 1))) aNil)))) (sRet (eC (.bl false))) zAv))) (hE P R sl none none none) S=.rt (.bl false) S from e]
  show SR.rt (.bl false) S=_
  congr 2
  exact(xu fun z=>by obtain⟨r,hr,n⟩:=x;exact n (z.met r hr)).symm
 have d':∀r∈R,Met P r:=fun r hr=>xW fun z=>x ⟨r,hr,z⟩
 refine zA6 e ?_
 have c0:(zAh 2 [] (iVal (eVar 4)) (gTup [(gName 0),(gName 1)]) tYes (eVar 0)) (hE P R sl o5 o6 none) S=.ok (.lst (sl.map fun s=>.int s.1)) S:=by
  refine zB5 (xs:=sl) (h:=cel) (gd:=[]) (fun env=>∃o p,env=[o,p]) (zB9 rfl) zAi ⟨none,none,rfl⟩ (xk h.sn m9) ?_
  rintro x hx env ⟨o,p,rfl⟩
  exact⟨[some (.int x.1),some (.int x.2)],by simp_arith [xj],⟨_,_,rfl⟩,by simp_arith [xj]⟩
 have c1:(zAh 2 [] (iVal (eVar 4)) (gTup [(gName 0),(gName 1)]) tYes (eVar 1)) (hE P R sl o5 o6 none) S=.ok (.lst (sl.map fun s=>.int s.2)) S:=by
  refine zB5 (xs:=sl) (h:=cel) (gd:=[]) (fun env=>∃o p,env=[o,p]) (zB9 rfl) zAi ⟨none,none,rfl⟩ (xk h.sn m9) ?_
  rintro x hx env ⟨o,p,rfl⟩
  exact⟨[some (.int x.1),some (.int x.2)],by simp_arith [xj],⟨_,_,rfl⟩,by simp_arith [xj]⟩
 have s0:=zFm (S:=S) (f:=fun s:Pt=>s.1) (l:=sl) (by have:=h.sn;lia) fun s hs=>bd12 (h.sb s hs).1
 have s1:=zFm (S:=S) (f:=fun s:Pt=>s.2) (l:=sl) (by have:=h.sn;lia) fun s hs=>bd12 (h.sb s hs).2
 have u0:tB (eOp neK (eCB sumI (zA0 (zAh 2 [] (iVal (eVar 4)) (gTup [(gName 0),(gName 1)]) tYes (eVar 0)) aNil)) (eC (.int 0))) (hE P R sl o5 o6 none) S=.ok (decide (sX sl≠0)) S:=by
  simp only[tB,eOp,eCB,zA0,c0,aNil,Rs.bind_ok,s0,zAs,eC,ne_int,asB]
 have u1:tB (eOp neK (eCB sumI (zA0 (zAh 2 [] (iVal (eVar 4)) (gTup [(gName 0),(gName 1)]) tYes (eVar 1)) aNil)) (eC (.int 0))) (hE P R sl o5 o6 none) S=.ok (decide (sY sl≠0)) S:=by
  simp only[tB,eOp,eCB,zA0,c1,aNil,Rs.bind_ok,s1,zAs,eC,ne_int,asB]
 rw[sSeq,zEa (zLb u0 u1)]
 by_cases f:sX sl≠0\/sY sl≠0
 ·rw[xf f]
  show SR.rt (.bl false) S=_
  congr 2
  exact(xu fun z=>f.elim (fun q=>q z.sx) fun q=>q z.sy).symm
 rw[xg f]
 have f1:sX sl=0:=xW fun z=>f (.inl z)
 have f2:sY sl=0:=xW fun z=>f (.inr z)
 have inn:∀r∈R,∀s∈sl,eCB minI (zA0 (zAh 2 [1,2] (iVal (eVar 0)) (gTup [(gName 0),(gName 1)]) tYes (eOp addD (eOp mulD (eVar 2) (eVar 0)) (eOp mulD (eVar 3) (eVar 1)))) aNil) [some (rowD r),some (.int s.1),some (.int s.2)] S=.ok (.int (fall r s)) S:=fun r hr s hs=>by
  have q:(zAh 2 [1,2] (iVal (eVar 0)) (gTup [(gName 0),(gName 1)]) tYes (eOp addD (eOp mulD (eVar 2) (eVar 0)) (eOp mulD (eVar 3) (eVar 1)))) [some (rowD r),some (.int s.1),some (.int s.2)] S=.ok (.lst (r.map fun c=>.int (wt s c))) S:=by
   refine zB5 (xs:=r) (h:=cel) (gd:=[]) (fun env=>∃o p,env=[o,p,some (.int s.1),some (.int s.2)]) (zB9 rfl) zAi ⟨none,none,rfl⟩ (xk (h.ln r hr) (by decide)) ?_
   rintro x hx env ⟨o,p,rfl⟩
   exact⟨[some (.int x.1),some (.int x.2),some (.int s.1),some (.int s.2)],by simp_arith [xj],⟨_,_,rfl⟩,by simp_arith [mul6 (h.sb s hs).1 (h.bd r hr x hx).1,mul6 (h.sb s hs).2 (h.bd r hr x hx).2];rfl⟩
  have mn:=zIc (S:=S) (s:=s) (h.ne r hr)
  rw[xP]at mn
  simp only[eCB,zA0,aNil,q,Rs.bind_ok]
  rw[show(r.map fun c=>D.int (wt s c))=r.map (D.int ∘ wt s)from rfl,mn]
  rfl
 have cz:(zAh 3 [] (iZp true true (zA0 (eVar 3) (zA0 (eVar 4) aNil))) (gTup [(gName 0),(gTup [(gName 1),(gName 2)])]) tYes (eCB minI (zA0 (zAh 2 [1,2] (iVal (eVar 0)) (gTup [(gName 0),(gName 1)]) tYes (eOp addD (eOp mulD (eVar 2) (eVar 0)) (eOp mulD (eVar 3) (eVar 1)))) aNil))) (hE P R sl o5 o6 none) S=.ok (.lst ((R.zip sl).map fun a=>.int (fall a.1 a.2))) S:=by
  refine zB5 (xs:=R.zip sl) (h:=fun a=>.tup [rowD a.1,cel a.2]) (gd:=[]) (fun env=>∃o p q,env=[o,p,q]) ?_ zAi ⟨none,none,none,rfl⟩ (by rw[yb];have:=h.rl;lia) ?_
  ·simp_arith [iZp,zTg]
  ·rintro a ha env ⟨o,p,q,rfl⟩
   have m:=uW (show(a.1,a.2)∈R.zip sl from ha)
   exact⟨[some (rowD a.1),some (.int a.2.1),some (.int a.2.2)],by simp_arith [xj],⟨_,_,_,rfl⟩,inn _ m.1 _ m.2⟩
 have x7:sSet 7 (zAh 3 [] (iZp true true (zA0 (eVar 3) (zA0 (eVar 4) aNil))) (gTup [(gName 0),(gTup [(gName 1),(gName 2)])]) tYes (eCB minI (zA0 (zAh 2 [1,2] (iVal (eVar 0)) (gTup [(gName 0),(gName 1)]) tYes (eOp addD (eOp mulD (eVar 2) (eVar 0)) (eOp mulD (eVar 3) (eVar 1)))) aNil))) (hE P R sl o5 o6 none) S=.nx (hE P R sl o5 o6 (some (.lst ((R.zip sl).map fun a=>.int (fall a.1 a.2))))) S:=by
  rw[sSet,cz]
  rfl
 refine zA6 x7 ?_
 simp_arith [zJg h,gt_int]
 congr 2
 exact xI.mpr ⟨fun z=>⟨by nofun,by nofun,by nofun,d',f1,f2,z⟩,fun z=>z.fl⟩
end
end DP
namespace DP
open DS RW
noncomputable section
open Classical
theorem zZ9 (r:List Pt):lv 2 (rowD r):=⟨_,rfl,fun x hx=>by
 obtain⟨p,_,rfl⟩:=xq.mp hx
 exact zU1 p⟩
theorem zQo {l:List D}(h:∀x∈l,∃p,x=cel p):∃ps:List Pt,l=ps.map cel:=by
 induction l with
 | nil=>exact⟨[],rfl⟩
 | cons x l ih=>
  obtain⟨p,rfl⟩:=h x (.head _)
  obtain⟨ps,e⟩:=ih fun y hy=>h y (.tail _ hy)
  exact⟨p::ps,by rw[e];rfl⟩
theorem nd_cel {l:List Pt}:(l.map cel).Nodup <-> l.Nodup:=⟨fun h=>(List.pairwise_map.mp h).imp fun {a b} h z=>h (by rw[z]),fun h=>List.pairwise_map.mpr (h.imp fun {a b} h z=>h (zGe z))⟩
structure Sr (l cs:List Pt):Prop where
 eq:srt (l.map cel)=cs.map cel
 up:Up (cs.map cel)
 mem:∀p,p∈cs <-> p∈l
 len:cs.length=l.length
 nd:l.Nodup->cs.Nodup
theorem zXy (l:List Pt):∃cs,Sr l cs:=by
 have pm:=zCb (l.map cel)
 obtain⟨cs,e⟩:=zQo (l:=srt (l.map cel)) fun x hx=>by
  obtain⟨p,_,rfl⟩:=xq.mp (pm.mem_iff.mp hx)
  exact⟨p,rfl⟩
 refine⟨cs,e,by rw[<- e];exact zLd (n:=1) (zEu l),fun p=>?_,?_,fun h=>nd_cel.mp (by rw[<- e];exact pm.nodup_iff.mpr (nd_cel.mpr h))⟩
 ·rw[<- zEt (l:=cs),<- e,pm.mem_iff,zEt]
 ·have:=pm.length_eq
  rw[e,xp,xp]at this
  exact this
noncomputable def sr (l:List Pt):List Pt:=choose (zXy l)
theorem zE0 (l:List Pt):Sr l (sr l):=choose_spec (zXy l)
theorem zRf {S:Store}{r:List Pt}(hl:r.length<=63):zMn S [rowD r]=some (.lst ((sr r).map cel)):=by
 show(if sortable (r.map cel)then some (D.lst (srt (r.map cel)))else none)=_
 rw[xf ⟨by rw[xp];exact xk hl (by decide),1,by decide,zEu r⟩,(zE0 r).eq]
theorem zUy (rows:List (List Pt)):∃us:List (List Pt),srt (dedup (rows.map rowD))=us.map rowD/\us.Nodup/\∀r,r∈us <-> r∈rows:=by
 have al:∀x∈srt (dedup (rows.map rowD)),∃r∈rows,x=rowD r:=fun x hx=>by
  obtain⟨r,hr,e⟩:=xq.mp (mem_dedup.mp ((zCb _).mem_iff.mp hx))
  exact⟨r,hr,e.symm⟩
 obtain⟨us,e1⟩:∃us:List (List Pt),srt (dedup (rows.map rowD))=us.map rowD:=by
  generalize srt (dedup (rows.map rowD))=l at al
  induction l with
  | nil=>exact⟨[],rfl⟩
  | cons x l ih=>
   obtain⟨r,_,rfl⟩:=al x (.head _)
   obtain⟨us,e⟩:=ih fun y hy=>al y (.tail _ hy)
   exact⟨r::us,by rw[e];rfl⟩
 refine⟨us,e1,?_,fun r=>?_⟩
 ·have:(us.map rowD).Nodup:=by rw[<- e1];exact(zCb _).nodup_iff.mpr zEj
  exact(List.pairwise_map.mp this).imp fun {a b} h z=>h (by rw[z])
 ·have m:rowD r∈us.map rowD <-> rowD r∈rows.map rowD:=by rw[<- e1,(zCb _).mem_iff,mem_dedup]
  constructor
  ·intro h
   obtain⟨q,hq,e⟩:=xq.mp (m.mp (xq.mpr ⟨r,h,rfl⟩))
   rw[<- zLi e];exact hq
  ·intro h
   obtain⟨q,hq,e⟩:=xq.mp (m.mpr (xq.mpr ⟨r,h,rfl⟩))
   rw[<- zLi e];exact hq
noncomputable abbrev lAll:EM:=(eCB allB (zA0 (zAh 1 [1] (iVal (eVar 0)) (gName 0) tYes (eOp inK (eVar 0) (eVar 1))) aNil))
noncomputable abbrev lAny:EM:=(eCB anyB (zA0 (zAh 1 [3] (iVal (eVar 1)) (gName 0) tYes (eAnd (eOp neK (eVar 0) (eVar 1)) lAll)) aNil))
theorem zWc {S:Store}{q r:List Pt}(hl:q.length<=1000):lAll [some (rowD q),some (rowD r)] S=.ok (.bl (decide (Sub q r))) S:=by
 have c:(zAh 1 [1] (iVal (eVar 0)) (gName 0) tYes (eOp inK (eVar 0) (eVar 1))) [some (rowD q),some (rowD r)] S=.ok (.lst (q.map fun c=>.bl (decide (c∈r)))) S:=by
  refine zB5 (xs:=q) (h:=cel) (gd:=[]) (fun env=>∃o,env=[o,some (rowD r)]) (zB9 rfl) zAi ⟨none,rfl⟩ (xk hl (by decide)) ?_
  rintro x hx env ⟨o,rfl⟩
  exact⟨[some (cel x),some (rowD r)],by simp_arith [xj],⟨_,rfl⟩,by simp_arith [zPp]⟩
 rw[lAll,eCB,zA0,c,Rs.bind_ok,aNil,Rs.bind_ok,Rs.bind_ok,zMg (p:=fun c=>c∈r)]
 show Rs.ok _ _=_
 congr 2
 exact xI.mpr Iff.rfl
theorem zWb {S:Store}{v:D}{us:List (List Pt)}{r:List Pt}{o2:Option D}(hu:us.length<=1000) (hl:∀q∈us,q.length<=1000) (hr:r∈us):tNot (tTru lAny) [some v,some (.lst (us.map rowD)),o2,some (rowD r)] S=.ok (decide (Mn us r)) S:=by
 have c:(zAh 1 [3] (iVal (eVar 1)) (gName 0) tYes (eAnd (eOp neK (eVar 0) (eVar 1)) lAll)) [some v,some (.lst (us.map rowD)),o2,some (rowD r)] S=.ok (.lst (us.map fun q=>.bl (decide (q≠r/\Sub q r)))) S:=by
  refine zB5 (xs:=us) (h:=rowD) (gd:=[]) (fun env=>∃o,env=[o,some (rowD r)]) ?_ zAi ⟨none,rfl⟩ (xk hu (by decide)) ?_
  ·simp_arith [iVal,zFa]
  rintro q hq env ⟨o,rfl⟩
  refine⟨[some (rowD q),some (rowD r)],by simp_arith [xj],⟨_,rfl⟩,?_⟩
  have t1:eOp neK (eVar 0) (eVar 1) [some (rowD q),some (rowD r)] S=.ok (.bl (decide (q≠r))) S:=by simp_arith [zZ3]
  rw[eAnd,t1,Rs.bind_ok]
  show((if decide (q≠r)=true then _ else _):Rs D)=_
  by_cases d:q≠r
  ·rw[xf (xv d),zWc (hl q hq)]
   congr 2
   exact xI.mpr ⟨fun z=>⟨d,z⟩,fun z=>z.2⟩
  ·rw[xg (by simpa using d)]
   congr 2
   exact(xu fun z=>d z.1).symm
 have t:tTru lAny [some v,some (.lst (us.map rowD)),o2,some (rowD r)] S=.ok (decide (∃q∈us,q≠r/\Sub q r)) S:=by
  rw[tTru,lAny,eCB,zA0,c,Rs.bind_ok,aNil,Rs.bind_ok,Rs.bind_ok,zMf (p:=fun q=>q≠r/\Sub q r)]
  rfl
 rw[zHm t]
 congr 1
 refine xI.mpr ⟨fun h=>⟨hr,fun q hq s=>xW fun n=>h ⟨q,hq,n,s⟩⟩,fun h z=>?_⟩
 obtain⟨q,hq,n,s⟩:=z
 exact n (h.2 q hq s)
noncomputable abbrev llB:SM:=(sIf (tNot (tTru lAny)) (zE1 (eMt "list" zC1 (eVar 2) (zA0 (eVar 3) aNil))) zAv)
theorem zPw {us P:List (List Pt)}{r:List Pt}:(P++[r]).filter (fun r=>decide (Mn us r))=(P.filter fun r=>decide (Mn us r))++if Mn us r then [r]else []:=by
 rw[List.filter_append]
 congr 1
 by_cases c:Mn us r
 ·rw[xf c,uP,xf (xv c)];rfl
 ·rw[xg c,uP,xg (by rw[xu c];decide)];rfl
theorem zPd {S0:Store}{v:D}{rows:List (List Pt)}{gd:List (Nat × D)}(hw:zCa S0 v=some ⟨rows.map rowD,gd⟩) (hg:gOk S0 gd) (hl:rows.length<=63) (hr:∀r∈rows,r.length<=63):
  ∃us:List (List Pt),us.Nodup/\(∀r,r∈us <-> r∈rows.map sr)/\zBb [v] S0=.ok (zAa (us.filter fun r=>decide (Mn us r))) S0:=by
 obtain⟨us,e1,nd,mem⟩:=zUy (rows.map sr)
 refine⟨us,nd,mem,?_⟩
 have ul:us.length<=63:=xk (zSf nd fun r h=>(mem r).mp h) (by rw[xp];exact hl)
 have rl:∀q∈us,q.length<=1000:=fun q hq=>by
  obtain⟨r,h1,rfl⟩:=xq.mp ((mem q).mp hq)
  rw[(zE0 r).len];have:=hr r h1;lia
 have cm:(zAh 1 [] (iVal (eVar 0)) (gName 0) tYes (eCB zB4 (zA0 (eCB zMn (zA0 (eVar 0) aNil)) aNil))) [some v,none,none,none] S0=.ok (.lst (rows.map fun r=>rowD (sr r))) S0:=by
  refine zB5 (xs:=rows) (h:=rowD) (gd:=gd) (fun env=>∃o,env=[o]) ?_ hg ⟨none,rfl⟩ (xk hl (by decide)) ?_
  ·simp_arith [iVal,hw]
  ·rintro r h env ⟨o,rfl⟩
   have tp:zB4 S0 [.lst ((sr r).map cel)]=some (rowD (sr r)):=rfl
   exact⟨[some (rowD r)],by simp_arith [xj],⟨_,rfl⟩,by simp_arith [zRf (hr r h),tp]⟩
 have ss:ssK S0 (.lst (rows.map fun r=>rowD (sr r)))=some (.lst (us.map rowD)):=by
  have e0:(rows.map fun r=>rowD (sr r))=(rows.map sr).map rowD:=by rw[xP];rfl
  show(if setable (rows.map fun r=>rowD (sr r))then some (D.lst (srt (dedup (rows.map fun r=>rowD (sr r)))))else none)=_
  rw[xf ⟨by rw[xp];exact xk hl (by decide),1,by decide,fun x hx=>by obtain⟨r,_,rfl⟩:=xq.mp hx;exact zZ9 _⟩,e0,e1]
 obtain⟨env',S',e,o3,rfl,rfl⟩:=zH9 (h:=rowD) (gd:=[]) (g:=gName 3) (b:=llB) (ys:=us) (fun P env S=>∃o3,env=[some v,some (.lst (us.map rowD)),some (.ref S0.length),o3]/\S=S0++[.lst ((P.filter fun r=>decide (Mn us r)).map rowD)]) (fun _ _ _ _=>zAi) (fun P r R eq env S hh=>by
  obtain⟨o3,rfl,rfl⟩:=hh
  have hr':r∈us:=by rw[eq];simp
  have pl:(P.filter fun r=>decide (Mn us r)).length<=63:=xk (uR _ _) (xk (by rw[eq,xy];lia) ul)
  have at_:(S0++[D.lst ((P.filter fun r=>decide (Mn us r)).map rowD)])[S0.length]?=some (.lst ((P.filter fun r=>decide (Mn us r)).map rowD)):=by simp
  have t:=zWb (S:=S0++[.lst ((P.filter fun r=>decide (Mn us r)).map rowD)]) (v:=v) (us:=us) (r:=r) (o2:=some (.ref S0.length)) (by nofun) rl hr'
  refine⟨[some v,some (.lst (us.map rowD)),some (.ref S0.length),some (rowD r)],[some v,some (.lst (us.map rowD)),some (.ref S0.length),some (rowD r)],S0++[.lst (((P++[r]).filter fun r=>decide (Mn us r)).map rowD)],by simp_arith [xj],?_,_,rfl,rfl⟩
  rw[llB,zEa t,zPw]
  by_cases c:Mn us r
  ·rw[xf c,xf c]
   have ap:=zR1 (d:=rowD r) at_ (by rw[xp];lia)
   have es:(S0++[D.lst ((P.filter fun r=>decide (Mn us r)).map rowD)]).set S0.length (.lst ((P.filter fun r=>decide (Mn us r)).map rowD++[rowD r]))=S0++[.lst (((P.filter fun r=>decide (Mn us r))++[r]).map rowD)]:=by
    rw[List.set_append_right _ _ (xi _),xX]
    simp
   rw[es]at ap
   simp_arith [eMt,ty_D at_,ap]
  ·rw[xg c,xg c,v3]
   rfl) us [] [some v,some (.lst (us.map rowD)),some (.ref S0.length),none] (S0++[.lst []]) rfl ⟨none,rfl,rfl⟩
 have at_:(S0++[D.lst ((us.filter fun r=>decide (Mn us r)).map rowD)])[S0.length]?=some (.lst ((us.filter fun r=>decide (Mn us r)).map rowD)):=by simp
 refine zHf (T:=[.lst ((us.filter fun r=>decide (Mn us r)).map rowD)]) rfl ?_ (zDu _)
 have x1:sSet 1 (eUn ssK (zAh 1 [] (iVal (eVar 0)) (gName 0) tYes (eCB zB4 (zA0 (eCB zMn (zA0 (eVar 0) aNil)) aNil)))) [some v,none,none,none] S0=.nx [some v,some (.lst (us.map rowD)),none,none] S0:=by
  rw[sSet,eUn,cm,Rs.bind_ok,ss]
  rfl
 have x3:sFor (iVal (eVar 1)) (gName 3) llB [some v,some (.lst (us.map rowD)),some (.ref S0.length),none] (S0++[.lst []])=.nx [some v,some (.lst (us.map rowD)),some (.ref S0.length),o3] (S0++[.lst ((us.filter fun r=>decide (Mn us r)).map rowD)]):=by
  have w:iVal (eVar 1) [some v,some (.lst (us.map rowD)),some (.ref S0.length),none] (S0++[.lst []])=.ok ⟨us.map rowD,[]⟩ (S0++[.lst []]):=by simp_arith [iVal,zFa]
  rw[sFor,w,Rs.then_ok]
  exact e
 have tp:zB4 (S0++[.lst ((us.filter fun r=>decide (Mn us r)).map rowD)]) [.ref S0.length]=some (.tup ((us.filter fun r=>decide (Mn us r)).map rowD)):=by
  simp only[zB4,litems,show look (S0++[D.lst ((us.filter fun r=>decide (Mn us r)).map rowD)]) (.ref S0.length)=_ from at_,vL]
 exact zA6 x1 (zA6 (e:=[some v,some (.lst (us.map rowD)),some (.ref S0.length),none]) (S1:=(S0++[.lst []])) (by simp_arith [eNew]) (zA6 x3 (by simp_arith [tp])))
structure Lst (rows K:List (List Pt)):Prop where
 fr:∀k∈K,∃r∈rows,(∀c,c∈k <-> c∈r)/\k.length=r.length/\(r.Nodup->k.Nodup)
 cov:(∀r∈rows,r.Nodup)->∀r∈rows,∃k∈K,Sub k r
 len:K.length<=rows.length
 less:∀t∈rows,∀t'∈rows,Sub t' t->t'.length<t.length->K.length<rows.length
theorem zI2 {S0:Store}{v:D}{rows:List (List Pt)}{gd:List (Nat × D)}(hw:zCa S0 v=some ⟨rows.map rowD,gd⟩) (hg:gOk S0 gd) (hl:rows.length<=63) (hr:∀r∈rows,r.length<=63):
  ∃K:List (List Pt),zBb [v] S0=.ok (zAa K) S0/\Lst rows K:=by
 obtain⟨us,nd,mem,e⟩:=zPd hw hg hl hr
 have le:us.length<=rows.length:=xk (zSf nd fun r h=>(mem r).mp h) (by rw[xp];exact xi _)
 refine⟨_,e,fun k hk=>?_,fun hn r hr'=>?_,xk (uR _ _) le,fun t ht t' ht' s l=>?_⟩
 ·obtain⟨r,h1,rfl⟩:=xq.mp ((mem k).mp (vE.mp hk).1)
  exact⟨r,h1,(zE0 r).mem,(zE0 r).len,(zE0 r).nd⟩
 ·have cn:Cn us:=⟨fun q hq=>by obtain⟨r,h1,rfl⟩:=xq.mp ((mem q).mp hq);exact(zE0 r).nd (hn r h1),fun q hq p hp s s'=>by
   obtain⟨q0,h1,rfl⟩:=xq.mp ((mem q).mp hq)
   obtain⟨p0,h2,rfl⟩:=xq.mp ((mem p).mp hp)
   have pm:((sr q0).map cel).Perm ((sr p0).map cel):=((List.perm_ext_iff_of_nodup ((zE0 q0).nd (hn _ h1)) ((zE0 p0).nd (hn _ h2))).mpr fun p=>⟨s p,s' p⟩).map _
   exact zIi (up_eq (zEu _) pm (zE0 q0).up (zE0 p0).up)⟩
  obtain⟨k,mk,sk⟩:=cn.min _ (sr r) (xi _) ((mem _).mpr (xq.mpr ⟨r,hr',rfl⟩))
  exact⟨k,vE.mpr ⟨mk.1,xv mk⟩,fun c hc=>((zE0 r).mem c).mp (sk c hc)⟩
 ·have tm:sr t∈us:=(mem _).mpr (xq.mpr ⟨t,ht,rfl⟩)
  have tm':sr t'∈us:=(mem _).mpr (xq.mpr ⟨t',ht',rfl⟩)
  have nm:¬ Mn us (sr t):=fun z=>by
   have:=z.2 (sr t') tm' fun c hc=>((zE0 t).mem c).mpr (s c (((zE0 t').mem c).mp hc))
   have e2:=congrArg List.length this
   rw[(zE0 t).len,(zE0 t').len]at e2
   lia
  refine xC ?_ le
  refine xW fun z=>nm ?_
  have eq:(us.filter fun r=>decide (Mn us r)).length=us.length:=Nat.le_antisymm (uR _ _) (by nofun)
  exact uw (List.length_filter_eq_length_iff.mp eq _ tm)
end
end DP
namespace DP
open DS RW
noncomputable section
open Classical
theorem zMw {S:Store}{n:Nat}{l:List Pt}{p:Pt}(h:S[n]?=some (.lst (l.map cel))):zH0 S (cel p) (.ref n)=some (.bl (decide (p ∉ l))):=by
 unfold zH0 inKO
 rw[show look S (.ref n)=some (.lst (l.map cel))from h]
 dsimp only
 rw[xf (zZ8 p l)]
 show some (D.bl _)=_
 congr 2
 rw[<- decide_not]
 exact xI.mpr (not_congr zEt)
theorem yBm {S:Store}{n:Nat}{l m:List D}(h:S[n]?=some (.lst l)) (hl:l.length+m.length<=1000):zEx S (.ref n) [.lst m]=some (.non,S.set n (.lst (l++m))):=by
 unfold zEx
 simp only
 rw[xg (fun z=>by cases z),h]
 show(if l.length+m.length<=most then some (D.non,S.set n (.lst (l++m)))else none)=_
 rw[xf (xk hl (by decide))]
noncomputable def allC (P:List (List Pt)):List Pt:=P.foldl (fun a r=>a++r.filter fun c=>decide (c ∉ a)) []
theorem zK0 {P:List (List Pt)}{r:List Pt}:allC (P++[r])=allC P++r.filter fun c=>decide (c ∉ allC P):=by
 unfold allC
 rw[List.foldl_append]
 rfl
theorem zR3 (P:List (List Pt)):(allC P).length<=P.flatten.length/\(∀r∈P,Sub r (allC P))/\((∀r∈P,r.Nodup)->(allC P).Nodup):=by
 obtain⟨n,hn⟩:∃n,n=P.length:=⟨_,rfl⟩
 induction n generalizing P with
 | zero=>
  obtain rfl:P=[]:=uL hn.symm
  exact⟨xi _,fun r hr=>(by cases hr),fun _=>List.nodup_nil⟩
 | succ n ih=>
  obtain⟨Q,r,rfl⟩:∃Q r,P=Q++[r]:=⟨P.dropLast,P.getLast (by intro z;rw[z]at hn;cases hn),(yM _).symm⟩
  obtain⟨h1,h2,h3⟩:=ih Q (by simpa using hn)
  rw[zK0]
  refine⟨?_,fun q hq c hc=>?_,fun h=>?_⟩
  ·have:=uR (fun c=>decide (c ∉ allC Q)) r
   simp only[List.flatten_append,List.flatten_cons,List.flatten_nil,v3,xy]
   lia
  ·rcases xG.mp hq with z|z
   ·exact vN _ (h2 q z c hc)
   ·rw[xF.mp z]at hc
    by_cases d:c∈allC Q
    ·exact vN _ d
    ·exact vc _ (vE.mpr ⟨hc,xv d⟩)
  ·refine List.nodup_append.mpr ⟨h3 fun q hq=>h q (vN _ hq),(h r (by simp)).filter _,fun a ha b hb z=>?_⟩
   subst z
   exact uw (vE.mp hb).2 ha
noncomputable def Fnd (cs:List Pt):List (List Pt):=cs.foldl (fun F c=>F++F.map fun x=>x++[c]) [[]]
theorem zIp {cs:List Pt}{c:Pt}:Fnd (cs++[c])=Fnd cs++(Fnd cs).map fun x=>x++[c]:=by
 unfold Fnd
 rw[List.foldl_append]
 rfl
theorem zMj (cs:List Pt):(Fnd cs).length=2 ^ cs.length/\(∀x∈Fnd cs,x.Sublist cs)/\cs∈Fnd cs/\∃tl,Fnd cs=[]::tl:=by
 obtain⟨n,hn⟩:∃n,n=cs.length:=⟨_,rfl⟩
 induction n generalizing cs with
 | zero=>
  obtain rfl:cs=[]:=uL hn.symm
  exact⟨rfl,fun x hx=>by rw[xF.mp hx];exact .refl _,.head _,[],rfl⟩
 | succ n ih=>
  obtain⟨Q,r,rfl⟩:∃Q r,cs=Q++[r]:=⟨cs.dropLast,cs.getLast (by intro z;rw[z]at hn;cases hn),(yM _).symm⟩
  obtain⟨h1,h2,h3,tl,h4⟩:=ih Q (by simpa using hn)
  rw[zIp]
  refine⟨?_,fun x hx=>?_,?_,?_⟩
  ·rw[xy,xp,h1,xy,vI,Nat.pow_succ];lia
  ·rcases xG.mp hx with z|z
   ·exact(h2 x z).trans (List.sublist_append_left _ _)
   ·obtain⟨y,hy,rfl⟩:=xq.mp z
    exact(h2 y hy).append (.refl _)
  ·exact vc _ (xq.mpr ⟨Q,h3,rfl⟩)
  ·rw[h4];exact⟨_,rfl⟩
noncomputable abbrev zEs (P:List (List Pt)) (cs:List Pt):List (List Pt):=(Fnd cs).filter fun x=>decide (∀b∈P,∃c∈x,c∈b)
theorem zZ7 {P:List (List Pt)}{cs:List Pt}(hp:P≠[]) (hn:∀b∈P,b≠[]) (hs:∀b∈P,Sub b cs) (h6:cs.length<=6):cs∈zEs P cs/\(zEs P cs).length<=63/\((zEs P cs).length<=62\/∃t'∈zEs P cs,Sub t' cs/\t'.length<cs.length):=by
 obtain⟨h1,h2,h3,tl,h4⟩:=zMj cs
 have full:cs∈zEs P cs:=vE.mpr ⟨h3,xv fun b hb=>by
  obtain⟨c,l,e⟩:=ud (hn b hb)
  have:c∈b:=by rw[e];exact .head _
  exact⟨c,hs b hb c this,this⟩⟩
 have no:¬ ∀b∈P,∃c∈([]:List Pt),c∈b:=fun z=>by
  obtain⟨b,l,e⟩:=ud hp
  obtain⟨c,hc,_⟩:=z b (by rw[e];exact .head _)
  cases hc
 have em:zEs P cs=tl.filter fun x=>decide (∀b∈P,∃c∈x,c∈b):=by
  unfold zEs
  rw[h4,uP,xg (by rw[xu no];decide)]
 have p6:2 ^ cs.length<=2 ^ 6:=yu (by decide) h6
 have ln:tl.length+1<=64:=by rw[h4,xE]at h1;lia
 have le:=uR (fun x=>decide (∀b∈P,∃c∈x,c∈b)) tl
 refine⟨full,by rw[em];lia,?_⟩
 by_cases c:(zEs P cs).length<=62
 ·exact .inl c
 right
 rw[em]at c
 have al:=List.length_filter_eq_length_iff.mp (show(tl.filter fun x=>decide (∀b∈P,∃c∈x,c∈b)).length=tl.length by nofun)
 have l6:2<=cs.length:=by
  rw[h4,xE]at h1
  refine xW fun z=>?_
  have:2 ^ cs.length<=2 ^ 1:=yu (by decide) (by nofun)
  lia
 obtain⟨Q,r,rfl⟩:∃Q r,cs=Q++[r]:=⟨cs.dropLast,cs.getLast (by intro z;rw[z]at l6;simp at l6),(yM _).symm⟩
 have qm:Q∈Fnd (Q++[r]):=by rw[zIp];exact vN _ (zMj Q).2.2.1
 rw[h4]at qm
 have qt:Q∈tl:=by
  rcases xm.mp qm with z|z
  ·rw[z]at l6;simp at l6
  ·exact z
 refine⟨Q,by rw[em];exact vE.mpr ⟨qt,al Q qt⟩,fun x hx=>vN _ hx,by simp⟩
end
end DP
namespace DP
open DS RW
noncomputable section
open Classical
noncomputable abbrev gC1:EM:=(zAh 1 [1] (iVal (eVar 2)) (gName 0) (tB (eOp zH0 (eVar 0) (eVar 1))) (eVar 0))
noncomputable abbrev gB1:SM:=(zE1 (eMt "list" zEx (eVar 1) (zA0 gC1 aNil)))
noncomputable abbrev gB2:SM:=(sSet 3 (eOp addE (eVar 3) (zAh 1 [4] (iVal (eVar 3)) (gName 0) tYes (eOp addE (eVar 0) (eTup (zA0 (eVar 1) aNil))))))
noncomputable abbrev gM1:EM:=(eCB anyB (zA0 (zAh 1 [0] (iVal (eVar 1)) (gName 0) tYes (eOp inK (eVar 0) (eVar 1))) aNil))
noncomputable abbrev gM2:EM:=(eCB allB (zA0 (zAh 1 [0] (iVal (eVar 1)) (gName 0) tYes gM1) aNil))
noncomputable abbrev gM3:EM:=(zAh 1 [0] (iVal (eVar 3)) (gName 0) (tTru gM2) (eVar 0))
theorem yB9 {S:Store}{b x:List Pt}(hl:x.length<=1000):gM1 [some (rowD b),some (rowD x)] S=.ok (.bl (decide (∃c∈x,c∈b))) S:=by
 have c:(zAh 1 [0] (iVal (eVar 1)) (gName 0) tYes (eOp inK (eVar 0) (eVar 1))) [some (rowD b),some (rowD x)] S=.ok (.lst (x.map fun c=>.bl (decide (c∈b)))) S:=by
  refine zB5 (xs:=x) (h:=cel) (gd:=[]) (fun env=>∃o,env=[o,some (rowD b)]) (zB9 rfl) zAi ⟨none,rfl⟩ (xk hl (by decide)) ?_
  rintro y hy env ⟨o,rfl⟩
  exact⟨[some (cel y),some (rowD b)],by simp_arith [xj],⟨_,rfl⟩,by simp_arith [zPp]⟩
 rw[gM1,eCB,zA0,c,Rs.bind_ok,aNil,Rs.bind_ok,Rs.bind_ok,zMf (p:=fun c=>c∈b)]
 rfl
theorem yB8 {S:Store}{P:List (List Pt)}{x:List Pt}(hp:P.length<=1000) (hl:x.length<=1000):tTru gM2 [some (rowD x),some (zAa P)] S=.ok (decide (∀b∈P,∃c∈x,c∈b)) S:=by
 have c:(zAh 1 [0] (iVal (eVar 1)) (gName 0) tYes gM1) [some (rowD x),some (zAa P)] S=.ok (.lst (P.map fun b=>.bl (decide (∃c∈x,c∈b)))) S:=by
  refine zB5 (xs:=P) (h:=rowD) (gd:=[]) (fun env=>∃o,env=[o,some (rowD x)]) (zB9 rfl) zAi ⟨none,rfl⟩ (xk hp (by decide)) ?_
  rintro b hb env ⟨o,rfl⟩
  exact⟨[some (rowD b),some (rowD x)],by simp_arith [xj],⟨_,rfl⟩,yB9 hl⟩
 rw[tTru,gM2,eCB,zA0,c,Rs.bind_ok,aNil,Rs.bind_ok,Rs.bind_ok,zMg (p:=fun b=>∃c∈x,c∈b)]
 rfl
noncomputable abbrev gE (P:List (List Pt)) (c:Nat) (o2 o3 o4 o5:Option D):Env:=[some (zAa P),some (.ref c),o2,o3,o4,o5]
theorem zPr {e:EM}{env:Env}{S:Store}{l:List D}(h:e env S=.ok (.lst l) S):iVal e env S=.ok ⟨l,[]⟩ S:=by rw[iVal,h,Rs.bind_ok,zFa];rfl
theorem zRh {S0:Store}{a b:D}:(S0++[a]).set S0.length b=S0++[b]:=by
 rw[List.set_append_right _ _ (xi _)]
 simp
theorem yAe {S0:Store}{P:List (List Pt)}(hf:P.flatten.length<=100):∃o2,sFor (iVal (eVar 0)) (gName 2) gB1 (gE P S0.length none none none none) (S0++[.lst []])=.nx (gE P S0.length o2 none none none) (S0++[.lst ((allC P).map cel)]):=by
 obtain⟨env',S',e,o2,rfl,rfl⟩:=zH9 (h:=rowD) (gd:=[]) (g:=gName 2) (b:=gB1) (ys:=P) (fun Q env S=>∃o2,env=gE P S0.length o2 none none none/\S=S0++[.lst ((allC Q).map cel)]) (fun _ _ _ _=>zAi) (fun Q r R eq env S hh=>by
  obtain⟨o2,rfl,rfl⟩:=hh
  have at_:(S0++[D.lst ((allC Q).map cel)])[S0.length]?=some (.lst ((allC Q).map cel)):=by simp
  have fl:P.flatten.length=Q.flatten.length+(r.length+R.flatten.length):=by rw[eq];simp
  have ql:=(zR3 Q).1
  refine⟨gE P S0.length (some (rowD r)) none none none,gE P S0.length (some (rowD r)) none none none,S0++[.lst ((allC (Q++[r])).map cel)],by simp_arith [xj],?_,_,rfl,rfl⟩
  have c:gC1 (gE P S0.length (some (rowD r)) none none none) (S0++[.lst ((allC Q).map cel)])=.ok (.lst ((r.filter fun c=>decide (c ∉ allC Q)).map cel)) (S0++[.lst ((allC Q).map cel)]):=by
   refine zKt (xs:=r) (h:=cel) (gd:=[]) (p:=fun c=>decide (c ∉ allC Q)) (fun env=>∃o,env=[o,some (.ref S0.length)]) (zB9 rfl) zAi ⟨none,rfl⟩ (xk (show r.length<=100 by nofun) (by decide)) ?_
   rintro x hx env ⟨o,rfl⟩
   exact⟨[some (cel x),some (.ref S0.length)],by simp_arith [xj],⟨_,rfl⟩,by simp_arith [zMw at_],fun _=>by simp_arith [xj]⟩
  have fle:=uR (fun c=>decide (c ∉ allC Q)) r
  have ex:=yBm (m:=(r.filter fun c=>decide (c ∉ allC Q)).map cel) at_ (by rw[xp,xp];lia)
  rw[zRh,<- xX,<- zK0]at ex
  rw[gB1,zE1,eMt]
  show((if tyD (S0++[D.lst ((allC Q).map cel)]) (.ref S0.length)=some "list" then _ else Rs.bad:Rs D).then _)=_
  rw[xf (ty_D at_),zA0,c,Rs.bind_ok,aNil,Rs.bind_ok,Rs.bind_ok,ex]
  rfl) P [] (gE P S0.length none none none none) (S0++[.lst []]) rfl ⟨none,rfl,rfl⟩
 refine⟨o2,?_⟩
 rw[sFor,zB9 (show eVar 0 (gE P S0.length none none none none) (S0++[.lst []])=.ok (zAa P) _ from rfl),Rs.then_ok]
 exact e
theorem zXd {S:Store}{x:List Pt}{c:Pt}(h:x.length<=1000):addE S (rowD x) (.tup [cel c])=some (rowD (x++[c])):=by
 rw[zMi (by rw[xp,vI];exact xk (show x.length+1<=1001 by nofun) (by decide))]
 show some (D.tup (x.map cel++[cel c]))=some (D.tup ((x++[c]).map cel))
 rw[xX]
 rfl
theorem zXe {S:Store}{l m:List D}(h:l.length+m.length<=1000):addE S (.lst l) (.lst m)=some (.lst (l++m)):=by
 show(if l.length+m.length<=most then some (D.lst (l++m))else none)=_
 rw[xf (xk h (by decide))]
theorem yAd {S:Store}{c:Nat}{P:List (List Pt)}{cs:List Pt}{o2:Option D}(at_:S[c]?=some (.lst (cs.map cel))) (h6:cs.length<=6):∃o4,sFor (iVal (eVar 1)) (gName 4) gB2 (gE P c o2 (some (.lst [.tup []])) none none) S=.nx (gE P c o2 (some (.lst ((Fnd cs).map rowD))) o4 none) S:=by
 obtain⟨env',S',e,o4,rfl,rfl⟩:=zH9 (h:=cel) (gd:=[(c,.lst (cs.map cel))]) (g:=gName 4) (b:=gB2) (ys:=cs) (fun Q env S'=>∃o4,env=gE P c o2 (some (.lst ((Fnd Q).map rowD))) o4 none/\S=S') (fun _ _ _ z=>by obtain⟨_,_,rfl⟩:=z;exact zKr at_) (fun Q p R eq env S' hh=>by
  obtain⟨o4,rfl,rfl⟩:=hh
  have ql:Q.length+1<=6:=by rw[eq,xy,xE]at h6;lia
  obtain⟨f1,f2,_⟩:=zMj Q
  have p5:2 ^ Q.length<=2 ^ 5:=yu (by decide) (by nofun)
  refine⟨gE P c o2 (some (.lst ((Fnd Q).map rowD))) (some (cel p)) none,gE P c o2 (some (.lst ((Fnd (Q++[p])).map rowD))) (some (cel p)) none,S,by simp_arith [xj],?_,_,rfl,rfl⟩
  have cm:(zAh 1 [4] (iVal (eVar 3)) (gName 0) tYes (eOp addE (eVar 0) (eTup (zA0 (eVar 1) aNil)))) (gE P c o2 (some (.lst ((Fnd Q).map rowD))) (some (cel p)) none) S=.ok (.lst ((Fnd Q).map fun x=>rowD (x++[p]))) S:=by
   refine zB5 (xs:=Fnd Q) (h:=rowD) (gd:=[]) (fun env=>∃o,env=[o,some (cel p)]) (zPr rfl) zAi ⟨none,rfl⟩ (xk (show(Fnd Q).length<=32 by nofun) (by decide)) ?_
   rintro x hx env ⟨o,rfl⟩
   have xl:=(f2 x hx).length_le
   exact⟨[some (rowD x),some (cel p)],by simp_arith [xj],⟨_,rfl⟩,by simp_arith [zXd (show x.length<=1000 by nofun)]⟩
  have ad:=zXe (S:=S) (l:=(Fnd Q).map rowD) (m:=(Fnd Q).map fun x=>rowD (x++[p])) (by rw[xp,xp];lia)
  have en:(Fnd Q).map rowD++((Fnd Q).map fun x=>rowD (x++[p]))=(Fnd (Q++[p])).map rowD:=by rw[zIp,xX,xP];rfl
  rw[en]at ad
  rw[gB2,sSet,eOp,show eVar 3 (gE P c o2 (some (.lst ((Fnd Q).map rowD))) (some (cel p)) none) S=.ok (.lst ((Fnd Q).map rowD)) S from rfl,Rs.bind_ok,cm,Rs.bind_ok,ad]
  rfl) cs [] (gE P c o2 (some (.lst [.tup []])) none none) S rfl ⟨none,rfl,rfl⟩
 refine⟨o4,?_⟩
 have w:iVal (eVar 1) (gE P c o2 (some (.lst [.tup []])) none none) S=.ok ⟨cs.map cel,[(c,.lst (cs.map cel))]⟩ S:=by
  rw[iVal]
  show(lift (zCa S (.ref c)) S)=_
  rw[zHk at_]
  rfl
 rw[sFor,w,Rs.then_ok]
 exact e
theorem zN6 {S0:Store}{P:List (List Pt)}(hp:P≠[]) (hn:∀b∈P,b≠[]) (nd:∀b∈P,b.Nodup) (pl:P.length<=100) (hf:P.flatten.length<=6):
  ∃K:List (List Pt),zC5 [zAa P] S0=.ok (zAa K) S0/\K≠[]/\K.length<=62/\(∀k∈K,k.length<=6)/\∀k∈K,∀b∈P,∃c∈k,c∈b:=by
 obtain⟨o2,e1⟩:=yAe (S0:=S0) (P:=P) (by nofun)
 obtain⟨a1,a2,a3⟩:=zR3 P
 have at_:(S0++[D.lst ((allC P).map cel)])[S0.length]?=some (.lst ((allC P).map cel)):=by simp
 obtain⟨o4,e2⟩:=yAd (P:=P) (o2:=o2) at_ (by nofun)
 obtain⟨f1,f2,_⟩:=zMj (allC P)
 have p6:2 ^ (allC P).length<=2 ^ 6:=yu (by decide) (by nofun)
 obtain⟨m1,m2,m3⟩:=zZ7 hp hn a2 (by nofun)
 have cm:gM3 (gE P S0.length o2 (some (.lst ((Fnd (allC P)).map rowD))) o4 none) (S0++[.lst ((allC P).map cel)])=.ok (.lst ((zEs P (allC P)).map rowD)) (S0++[.lst ((allC P).map cel)]):=by
  refine zKt (xs:=Fnd (allC P)) (h:=rowD) (gd:=[]) (p:=fun x=>decide (∀b∈P,∃c∈x,c∈b)) (fun env=>∃o,env=[o,some (zAa P)]) (zPr rfl) zAi ⟨none,rfl⟩ (xk (show(Fnd (allC P)).length<=64 by nofun) (by decide)) ?_
  rintro x hx env ⟨o,rfl⟩
  have xl:=(f2 x hx).length_le
  exact⟨[some (rowD x),some (zAa P)],by simp_arith [xj],⟨_,rfl⟩,yB8 (by nofun) (by nofun),fun _=>by simp_arith [xj]⟩
 have mf:∀x∈zEs P (allC P),x.Sublist (allC P):=fun x hx=>f2 x (vE.mp hx).1
 obtain⟨K,eK,lK⟩:=zI2 (S0:=S0++[.lst ((allC P).map cel)]) (v:=.lst ((zEs P (allC P)).map rowD)) (rows:=zEs P (allC P)) (gd:=[]) zFa zAi m2 fun r hr=>by
  have:=(mf r hr).length_le
  lia
 refine⟨K,?_,?_,?_,fun k hk=>?_,fun k hk b hb=>?_⟩
 ·refine zHf (T:=[.lst ((allC P).map cel)]) rfl ?_ (zDu K)
  have x5:sSet 5 gM3 (gE P S0.length o2 (some (.lst ((Fnd (allC P)).map rowD))) o4 none) (S0++[.lst ((allC P).map cel)])=.nx (gE P S0.length o2 (some (.lst ((Fnd (allC P)).map rowD))) o4 (some (.lst ((zEs P (allC P)).map rowD)))) (S0++[.lst ((allC P).map cel)]):=by
   rw[sSet,cm]
   rfl
  refine zA6 (e:=(gE P S0.length none none none none)) (S1:=(S0++[.lst []])) (by simp_arith [eNew]) (zA6 e1 (zA6 (e:=(gE P S0.length o2 (some (.lst [.tup []])) none none)) (S1:=(S0++[.lst ((allC P).map cel)])) (by simp_arith [xj]) (zA6 e2 (zA6 x5 ?_))))
  simp_arith [eK]
 ·intro z
  obtain⟨k,hk,_⟩:=lK.cov (fun r hr=>(a3 nd).sublist (mf r hr)) _ m1
  rw[z]at hk
  cases hk
 ·rcases m3 with z|⟨t',h1,h2,h3⟩
  ·exact xk lK.len z
  ·have:=lK.less _ m1 t' h1 h2 h3
   lia
 ·obtain⟨r,hr,_,e,_⟩:=lK.fr k hk
  have:=(mf r hr).length_le
  lia
 ·obtain⟨r,hr,e,_⟩:=lK.fr k hk
  obtain⟨c,h1,h2⟩:=uw (vE.mp hr).2 b hb
  exact⟨c,(e c).mpr h1,h2⟩
end
end DP
namespace DP
open DS RW
noncomputable section
open Classical
theorem drawn {S:Store}{n m:Nat}{many:Int}(hm:0<many) (h9:many<2147483648) (h:Deal S n m):∃(r:Int) (S':Store),zA7 [.ref n,.int many] S=.ok (.int r) S'/\0<=r/\r<many/\Deal S' n m/\Only n m S S':=zWz hm (zEo (by nofun) h9) h
theorem zD4 {S:Store}{n:Nat}{many:Int}{i:Nat}{env:Env}{r:Rs D}(h:env[i]?=some (some (.ref n))) (e:zA7 [.ref n,.int many] S=r):zAg zA7 (zA0 (eVar i) (zA0 (eC (.int many)) aNil)) env S=r:=by
 simp_arith [h]
 exact e
theorem zO1 {e:EM}{env:Env}{S S':Store}{x y:Int}(h:e env S=.ok (.int x) S'):eOp subD e (eC (.int y)) env S=.ok (.int (x-y)) S':=by
 rw[eOp,h];rfl
theorem zZ4 {S:Store}{p q:Pt}:neK S (cel p) (cel q)=some (.bl (decide (p≠q))):=by
 show(if lvs ([.int p.1,.int p.2]++[.int q.1,.int q.2])then some (D.bl (!decide ([D.int p.1,D.int p.2]=[D.int q.1,D.int q.2])))else none)=_
 rw[xf ⟨0,by decide,fun x hx=>by simp only[yq,ur,xm,vd,ve]at hx;rcases hx with rfl|rfl|rfl|rfl <;> exact⟨_,rfl⟩⟩]
 congr 2
 rw[<- decide_not]
 refine xI.mpr (not_congr ⟨fun e=>zGe (congrArg D.tup e),fun e=>by rw[e]⟩)
noncomputable abbrev fT:EM:=(eTup (zA0 (eOp subD (zAg zA7 (zA0 (eVar 1) (zA0 (eC (.int 7)) aNil))) (eC (.int 3))) (zA0 (eOp subD (zAg zA7 (zA0 (eVar 1) (zA0 (eC (.int 7)) aNil))) (eC (.int 3))) aNil)))
theorem yBg {S:Store}{n m:Nat}{o:D}(h:Deal S n m):∃(p:Pt) (S':Store),fT [some o,some (.ref n)] S=.ok (cel p) S'/\(p.1.natAbs<=3/\p.2.natAbs<=3)/\Deal S' n m/\Only n m S S':=by
 obtain⟨a,S1,e1,a0,a9,d1,o1⟩:=drawn (many:=7) (by decide) (by decide) h
 obtain⟨b,S2,e2,b0,b9,d2,o2⟩:=drawn (many:=7) (by decide) (by decide) d1
 refine⟨(a-3,b-3),S2,?_,⟨by show(a-3).natAbs<=3;lia,by show(b-3).natAbs<=3;lia⟩,d2,o1.trans o2⟩
 rw[fT,eTup,zA0,zO1 (zD4 rfl e1),Rs.bind_ok,zA0,zO1 (zD4 rfl e2),Rs.bind_ok]
 rfl
noncomputable abbrev fC:EM:=(zAh 1 [0] (zCs (zA0 (eC (.int 2)) aNil)) (gName 0) tYes fT)
theorem yBj {S:Store}{n m:Nat}{l:List (Option D)}(h:Deal S n m):∃(p q:Pt) (S':Store),fC (some (.ref n)::l) S=.ok (.lst [cel p,cel q]) S'/\(p.1.natAbs<=3/\p.2.natAbs<=3)/\(q.1.natAbs<=3/\q.2.natAbs<=3)/\Deal S' n m/\Only n m S S':=by
 have rg:zCs (zA0 (eC (.int 2)) aNil) (some (.ref n)::l) S=.ok ⟨(List.range 2).map fun(i:Nat)=>.int (i:Int),[]⟩ S:=by
  simp_arith [zCs,zLj (show(0:Int)<=2 by decide) (show(2:Int)<1000000 by decide)]
  rfl
 obtain⟨bs,S',e,bl,bp,d,o⟩:=zWx (h:=fun(i:Nat)=>D.int (i:Int)) (k:=cel) (own:=1) (ix:=[0]) (i:=zCs (zA0 (eC (.int 2)) aNil)) (gd:=[]) (g:=gName 0) (e:=fT) (S:=S) (S0:=S) (env:=some (.ref n)::l) (xs:=List.range 2) (fun env=>∃x,env=[x,some (.ref n)]) (fun S'=>Deal S' n m/\Only n m S S') (fun p:Pt=>p.1.natAbs<=3/\p.2.natAbs<=3) rg (fun _ _=>zAi) ⟨none,rfl⟩ ⟨h,.refl⟩ (by decide) (fun i _ env S1 he hj=>by
  obtain⟨x,rfl⟩:=he
  obtain⟨p,S2,e1,b,d2,o2⟩:=yBg (o:=.int (i:Int)) hj.1
  exact⟨[some (.int (i:Int)),some (.ref n)],p,S2,rfl,⟨_,rfl⟩,e1,b,d2,hj.2.trans o2⟩)
 match bs,bl with
 | [p,q],_=>exact⟨p,q,S',e,bp p (.head _),bp q (.tail _ (.head _)),d,o⟩
structure GS (sl:List Pt):Prop where
 lo:2<=sl.length
 hi:sl.length<=3
 nz:∀s∈sl,s≠(0,0)
 b1:∀s∈sl,s.1.natAbs<=6/\s.2.natAbs<=6
 sx:sX sl=0
 sy:sY sl=0
theorem zM2:∀(l:List Pt),sX (l.filter fun s=>decide (s≠(0,0)))=sX l/\sY (l.filter fun s=>decide (s≠(0,0)))=sY l
 | []=>⟨rfl,rfl⟩
 | a::l=>by
  obtain⟨h1,h2⟩:=zM2 l
  by_cases c:a≠(0,0)
  ·rw[uP,xf (xv c)]
   simp only[sX,sY,xt,vy]at *
   exact⟨by rw[h1],by rw[h2]⟩
  ·rw[uP,xg (by simpa using c)]
   have:a=(0,0):=xW c
   subst this
   simp only[sX,sY,xt,vy]at *
   exact⟨by rw[h1];simp,by rw[h2];simp⟩
noncomputable abbrev thr (p q:Pt):Pt:=(0-p.1-q.1,0-p.2-q.2)
noncomputable abbrev fF:EM:=(zAh 1 [] (iVal (eVar 3)) (gName 0) (tB (eOp neK (eVar 0) (eTup (zA0 (eC (.int 0)) (zA0 (eC (.int 0)) aNil))))) (eVar 0))
noncomputable abbrev fI:SM:=(sIf (tB (eOp ltI (eCB lenB (zA0 (eVar 3) aNil)) (eC (.int 2)))) (sSet 3 (eLst (zA0 (eTup (zA0 (eC (.int 1)) (zA0 (eC (.int 0)) aNil))) (zA0 (eTup (zA0 (eUn negD (eC (.int 1))) (zA0 (eC (.int 0)) aNil))) aNil)))) zAv)
noncomputable abbrev fE0 (n:Nat) (p q:Pt) (o3:Option D):Env:=[some (.ref n),some (cel p),some (cel q),o3,none,none,none,none,none,none,none,none,none]
theorem zO8 {S:Store}{n:Nat}{p q:Pt}{o3:Option D}(hp:p.1.natAbs<=3/\p.2.natAbs<=3) (hq:q.1.natAbs<=3/\q.2.natAbs<=3):∃sl:List Pt,GS sl/\sSet 3 fF (fE0 n p q (some (.lst ([p,q,thr p q].map cel)))) S=.nx (fE0 n p q (some (.lst (([p,q,thr p q].filter fun s=>decide (s≠(0,0))).map cel)))) S/\fI (fE0 n p q (some (.lst (([p,q,thr p q].filter fun s=>decide (s≠(0,0))).map cel)))) S=.nx (fE0 n p q (some (.lst (sl.map cel)))) S:=by
 have c:fF (fE0 n p q (some (.lst ([p,q,thr p q].map cel)))) S=.ok (.lst (([p,q,thr p q].filter fun s=>decide (s≠(0,0))).map cel)) S:=by
  refine zKt (xs:=[p,q,thr p q]) (h:=cel) (gd:=[]) (p:=fun s=>decide (s≠(0,0))) (fun env=>∃o,env=[o]) (zPr rfl) zAi ⟨none,rfl⟩ (show 3<=most by decide) ?_
  rintro x hx env ⟨o,rfl⟩
  have t:=zZ4 (S:=S) (p:=x) (q:=(0,0))
  exact⟨[some (cel x)],rfl,⟨_,rfl⟩,by simp_arith [t],fun _=>by simp_arith [xj]⟩
 have x1:sSet 3 fF (fE0 n p q (some (.lst ([p,q,thr p q].map cel)))) S=.nx (fE0 n p q (some (.lst (([p,q,thr p q].filter fun s=>decide (s≠(0,0))).map cel)))) S:=by
  rw[sSet,c];rfl
 obtain⟨f1,f2⟩:=zM2 [p,q,thr p q]
 have fle:=uR (fun s:Pt=>decide (s≠(0,0))) [p,q,thr p q]
 have fm:∀s∈([p,q,thr p q].filter fun s=>decide (s≠(0,0))),s≠(0,0)/\s∈[p,q,thr p q]:=fun s hs=>⟨uw (vE.mp hs).2,(vE.mp hs).1⟩
 generalize ([p,q,thr p q].filter fun s=>decide (s≠(0,0)))=fl at *
 have ln:lenB S [.lst (fl.map cel)]=some (.int (fl.length:Nat)):=by
  show some (D.int ((fl.map cel).length:Nat))=_
  rw[xp]
 have t:tB (eOp ltI (eCB lenB (zA0 (eVar 3) aNil)) (eC (.int 2))) (fE0 n p q (some (.lst (fl.map cel)))) S=.ok (decide (fl.length<2)) S:=by
  simp_arith [ln,lt_int]
  congr 1
  exact xI.mpr (by nofun)
 by_cases d:fl.length<2
 ·refine⟨[(1,0),(-1,0)],⟨by decide,by decide,by decide,by decide,by decide,by decide⟩,x1,?_⟩
  rw[fI,zEa t,xf d]
  have ng:negD S (.int 1)=some (.int (-1)):=rfl
  simp_arith [ng]
 ·refine⟨fl,⟨by nofun,fle,fun s hs=>(fm s hs).1,fun s hs=>?_,?_,?_⟩,x1,?_⟩
  ·have m:=(fm s hs).2
   simp only[xm,vd,ve]at m
   rcases m with rfl|rfl|rfl
   ·lia
   ·lia
   ·show(0-p.1-q.1).natAbs<=6/\(0-p.2-q.2).natAbs<=6
    lia
  ·rw[f1];simp only[sX,xt,vf,vy,List.sum_nil];lia
  ·rw[f2];simp only[sY,xt,vf,vy,List.sum_nil];lia
  ·rw[fI,zEa t,xg d]
   rfl
end
end DP
namespace DP
open DS RW
noncomputable section
open Classical
theorem zUz {n:Nat}(h:n<=1000):zHw [.int (n:Nat)]=some ⟨(List.range n).map fun(i:Nat)=>.int (i:Int),[]⟩:=by
 obtain⟨k,hk⟩:∃k:Int,k=(n:Int):=⟨_,rfl⟩
 rw[<- hk,zLj (by nofun) (by nofun),show k.toNat=n by nofun]
theorem zG1 {e:EM}{env:Env}{S S':Store}{n:Nat}(h:e env S=.ok (.int (n:Nat)) S') (hn:n<=1000):zCs (zA0 e aNil) env S=.ok ⟨(List.range n).map fun(i:Nat)=>.int (i:Int),[]⟩ S':=by
 unfold zCs zA0 aNil
 rw[h,Rs.bind_ok,Rs.bind_ok,Rs.bind_ok,zUz hn]
 rfl
theorem plus1 {e:EM}{env:Env}{S S':Store}{k:Nat}(h:e env S=.ok (.int (k:Nat)) S'):eOp addD (eC (.int 1)) e env S=.ok (.int ((1+k:Nat):Int)) S':=by
 have ad:addD S' (.int 1) (.int (k:Nat))=some (.int ((1+k:Nat):Int)):=by
  show some (D.int (1+(k:Int)))=_
  congr 2
 rw[eOp,eC,Rs.bind_ok,h,Rs.bind_ok,ad]
 rfl
noncomputable def zK4 (y:Prop) (s c:Pt):Prop:=∃far beside:Int,(y->1<=far)/\0<=far/\far<=2/\-1<=beside/\beside<=1/\c=(s.1*far-s.2*beside,s.2*far+s.1*beside)
noncomputable abbrev fE (n:Nat) (p q:Pt) (sl:List Pt) (sure:Int) (c:Nat) (o6 o7 o8 o9 o10 o11 o12:Option D):Env:=[some (.ref n),some (cel p),some (cel q),some (.lst (sl.map cel)),some (.int sure),some (.ref c),o6,o7,o8,o9,o10,o11,o12]
noncomputable abbrev fP:SM:=(sPar [11,12] (zA0 (eOp addD (zAg zA7 (zA0 (eVar 0) (zA0 (eC (.int 2)) aNil))) (eCB intB (zA0 (eOp eqI (eVar 6) (eVar 4)) aNil))) (zA0 (eOp subD (zAg zA7 (zA0 (eVar 0) (zA0 (eC (.int 3)) aNil))) (eC (.int 1))) aNil)))
noncomputable abbrev fA:SM:=(zE1 (eMt "list" zC1 (eVar 9) (zA0 (eTup (zA0 (eOp subD (eOp mulD (eVar 7) (eVar 11)) (eOp mulD (eVar 8) (eVar 12))) (zA0 (eOp addD (eOp mulD (eVar 8) (eVar 11)) (eOp mulD (eVar 7) (eVar 12))) aNil))) aNil)))
theorem yBh {S:Store}{n m:Nat}{p q s:Pt}{sl:List Pt}{sure:Int}{c c2 k:Nat}{o10 o11 o12:Option D}(h:Deal S n m):∃(far beside:Int) (S':Store),fP (fE n p q sl sure c (some (.int (k:Nat))) (some (.int s.1)) (some (.int s.2)) (some (.ref c2)) o10 o11 o12) S=.nx (fE n p q sl sure c (some (.int (k:Nat))) (some (.int s.1)) (some (.int s.2)) (some (.ref c2)) o10 (some (.int far)) (some (.int beside))) S'/\(((k:Int)=sure)->1<=far)/\0<=far/\far<=2/\-1<=beside/\beside<=1/\Deal S' n m/\Only n m S S':=by
 obtain⟨a,S1,e1,a0,a9,d1,o1⟩:=drawn (many:=2) (by decide) (by decide) h
 obtain⟨b,S2,e2,b0,b9,d2,o2⟩:=drawn (many:=3) (by decide) (by decide) d1
 have it:intB S1 [.bl (decide ((k:Int)=sure))]=some (.int (if(k:Int)=sure then 1 else 0)):=by
  show some (D.int (if decide ((k:Int)=sure)=true then 1 else 0))=_
  congr 2
  simp
 have f1:eOp addD (zAg zA7 (zA0 (eVar 0) (zA0 (eC (.int 2)) aNil))) (eCB intB (zA0 (eOp eqI (eVar 6) (eVar 4)) aNil)) (fE n p q sl sure c (some (.int (k:Nat))) (some (.int s.1)) (some (.int s.2)) (some (.ref c2)) o10 o11 o12) S=.ok (.int (a+if(k:Int)=sure then 1 else 0)) S1:=by
  rw[eOp,zD4 rfl e1,Rs.bind_ok]
  simp_arith [eq_int,it]
 refine⟨a+(if(k:Int)=sure then 1 else 0),b-1,S2,?_,fun z=>by rw[xf z];lia,?_,?_,by nofun,by nofun,d2,o1.trans o2⟩
 ·rw[fP,sPar,zA0,f1,Rs.bind_ok,zA0,zO1 (zD4 rfl e2),Rs.bind_ok]
  rfl
 ·split <;> lia
 ·split <;> lia
theorem yBl {S0 S:Store}{n m:Nat}{p q s:Pt}{sl:List Pt}{sure far beside:Int}{c c2 k:Nat}{o10:Option D}{l:List Pt}(h0:Deal S0 n m) (h:MkD n m S0 c2 (l.map cel) S) (hl:l.length<=100) (hs:s.1.natAbs<=6/\s.2.natAbs<=6) (f0:0<=far) (f9:far<=2) (b0:-1<=beside) (b9:beside<=1):
  fA (fE n p q sl sure c (some (.int (k:Nat))) (some (.int s.1)) (some (.int s.2)) (some (.ref c2)) o10 (some (.int far)) (some (.int beside))) S=.nx (fE n p q sl sure c (some (.int (k:Nat))) (some (.int s.1)) (some (.int s.2)) (some (.ref c2)) o10 (some (.int far)) (some (.int beside))) (S.set c2 (.lst ((l++[(s.1*far-s.2*beside,s.2*far+s.1*beside)]).map cel))):=by
 have ap:=zR1 (d:=cel (s.1*far-s.2*beside,s.2*far+s.1*beside)) h.at_ (by rw[xp];lia)
 have em:l.map cel++[cel (s.1*far-s.2*beside,s.2*far+s.1*beside)]=(l++[(s.1*far-s.2*beside,s.2*far+s.1*beside)]).map cel:=by rw[xX];rfl
 rw[em]at ap
 have m1:=mul6 (S:=S) (x:=s.1) (y:=far) (by nofun) (by nofun)
 have m2:=mul6 (S:=S) (x:=s.2) (y:=beside) (by nofun) (by nofun)
 have m3:=mul6 (S:=S) (x:=s.2) (y:=far) (by nofun) (by nofun)
 have m4:=mul6 (S:=S) (x:=s.1) (y:=beside) (by nofun) (by nofun)
 simp_arith [eMt,ty_D h.at_,m1,m2,m3,m4,ap]
noncomputable abbrev fW:SM:=(sFor (zCs (zA0 (eOp addD (eC (.int 1)) (zAg zA7 (zA0 (eVar 0) (zA0 (eC (.int 2)) aNil)))) aNil)) (gName 10) (sSeq fP fA))
theorem yBf {S0 S:Store}{n m:Nat}{p q s:Pt}{sl:List Pt}{sure:Int}{c c2 k:Nat}{o10 o11 o12:Option D}(h0:Deal S0 n m) (h:MkD n m S0 c2 (([]:List Pt).map cel) S) (hs:s.1.natAbs<=6/\s.2.natAbs<=6):
  ∃(l:List Pt) (S':Store) (a10 a11 a12:Option D),fW (fE n p q sl sure c (some (.int (k:Nat))) (some (.int s.1)) (some (.int s.2)) (some (.ref c2)) o10 o11 o12) S=.nx (fE n p q sl sure c (some (.int (k:Nat))) (some (.int s.1)) (some (.int s.2)) (some (.ref c2)) a10 a11 a12) S'/\MkD n m S0 c2 (l.map cel) S'/\1<=l.length/\l.length<=2/\∀x∈l,zK4 ((k:Int)=sure) s x:=by
 obtain⟨a,S1,e1,a0,a9,d1,o1⟩:=drawn (many:=2) (by decide) (by decide) h.deal
 obtain⟨j,rfl⟩:∃j:Nat,a=(j:Int):=⟨a.toNat,by nofun⟩
 have rg:=zG1 (plus1 (zD4 (i:=0) (env:=fE n p q sl sure c (some (.int (k:Nat))) (some (.int s.1)) (some (.int s.2)) (some (.ref c2)) o10 o11 o12) rfl e1)) (by nofun)
 obtain⟨env',S',e,l,a10,a11,a12,rfl,mk,ll,lc⟩:=zH9 (h:=fun(i:Nat)=>D.int (i:Int)) (gd:=[]) (g:=gName 10) (b:=sSeq fP fA) (ys:=List.range (1+j)) (fun P env S=>∃(l:List Pt) (a10 a11 a12:Option D),env=fE n p q sl sure c (some (.int (k:Nat))) (some (.int s.1)) (some (.int s.2)) (some (.ref c2)) a10 a11 a12/\MkD n m S0 c2 (l.map cel) S/\l.length=P.length/\∀x∈l,zK4 ((k:Int)=sure) s x) (fun _ _ _ _=>zAi) (fun P i R eq env S hh=>by
  obtain⟨l,a10,a11,a12,rfl,mk,ll,lc⟩:=hh
  have pl:P.length<=10:=by
   have:=congrArg List.length eq
   rw[yp,xy]at this
   lia
  obtain⟨far,beside,S2,e2,q1,q2,q3,q4,q5,d2,o2⟩:=yBh (p:=p) (q:=q) (s:=s) (sl:=sl) (sure:=sure) (c:=c) (c2:=c2) (k:=k) (o10:=some (.int (i:Int))) (o11:=a11) (o12:=a12) mk.deal
  have mk2:=mk.draw h0 d2 o2
  have e3:=yBl (p:=p) (q:=q) (s:=s) (sl:=sl) (sure:=sure) (c:=c) (k:=k) (o10:=some (.int (i:Int))) h0 mk2 (by nofun) hs q2 q3 q4 q5
  have mk3:=mk2.add h0 (cel (s.1*far-s.2*beside,s.2*far+s.1*beside))
  have em:l.map cel++[cel (s.1*far-s.2*beside,s.2*far+s.1*beside)]=(l++[(s.1*far-s.2*beside,s.2*far+s.1*beside)]).map cel:=by rw[xX];rfl
  rw[em]at mk3
  refine⟨_,_,_,rfl,zA6 e2 e3,l++[(s.1*far-s.2*beside,s.2*far+s.1*beside)],_,_,_,rfl,mk3,by rw[xy,xy,ll];rfl,fun x hx=>?_⟩
  rcases xG.mp hx with z|z
  ·exact lc x z
  ·rw[xF.mp z]
   exact⟨far,beside,q1,q2,q3,q4,q5,rfl⟩) (List.range (1+j)) [] (fE n p q sl sure c (some (.int (k:Nat))) (some (.int s.1)) (some (.int s.2)) (some (.ref c2)) o10 o11 o12) S1 rfl ⟨[],_,_,_,rfl,h.draw h0 d1 o1,rfl,fun x hx=>(by cases hx)⟩
 rw[yp]at ll
 refine⟨l,S',a10,a11,a12,?_,mk,by nofun,by nofun,lc⟩
 rw[fW,sFor,rg,Rs.then_ok]
 exact e
end
end DP
namespace DP
open DS RW
noncomputable section
open Classical
structure zXf (y:Prop) (s:Pt) (r:List Pt):Prop where
 ne:r≠[]
 ln:r.length<=2
 nd:r.Nodup
 cl:∀c∈r,zK4 y s c
theorem zJj:∀(l:List Pt) (n:Nat),zF9 (l.map cel) n=(l.zipIdx n).map fun a=>.tup [.int (a.2:Nat),cel a.1]
 | [],_=>rfl
 | p::l,n=>by
  rw[xt,zF9,zJj l (n+1)]
  rfl
theorem zXx {l:List Pt}(hl:l.length<=63):∃cs:List Pt,(∀(S:Store) (c:Nat),S[c]?=some (.lst (l.map cel))->ssK S (.ref c)=some (.lst (cs.map cel)))/\cs.Nodup/\(∀p,p∈cs <-> p∈l)/\cs.length<=l.length:=by
 obtain⟨u,eu⟩:=zQo (l:=dedup (l.map cel)) fun x hx=>by
  obtain⟨p,_,rfl⟩:=xq.mp (mem_dedup.mp hx)
  exact⟨p,rfl⟩
 have un:u.Nodup:=nd_cel.mp (by rw[<- eu];exact zEj)
 have um:∀p,p∈u <-> p∈l:=fun p=>by rw[<- zEt (l:=u),<- eu,mem_dedup,zEt]
 have k:=zE0 u
 refine⟨sr u,fun S c at_=>?_,k.nd un,fun p=>(k.mem p).trans (um p),by rw[k.len];exact zSf un fun p hp=>(um p).mp hp⟩
 unfold ssK
 rw[show litems S (.ref c)=some (l.map cel) by unfold litems;simp only[show look S (.ref c)=some (.lst (l.map cel))from at_]]
 dsimp only
 rw[xf ⟨by rw[xp];exact xk hl (by decide),0,by decide,zEu l⟩,eu,k.eq]
noncomputable abbrev fB:SM:=(sSeq (sSet 9 (eNew (eLst aNil))) (sSeq fW (zE1 (eMt "list" zC1 (eVar 5) (zA0 (eCB zB4 (zA0 (eUn ssK (eVar 9)) aNil)) aNil)))))
noncomputable abbrev Al (sure:Int) (sl:List Pt) (F:List (List Pt)):Prop:=∀(i:Nat) (r:List Pt),F[i]?=some r->∃s:Pt,sl[i]?=some s/\zXf ((i:Int)=sure) s r
theorem yBk {S0 S:Store}{n m:Nat}{p q s:Pt}{sl:List Pt}{sure:Int}{c k:Nat}{o9 o10 o11 o12:Option D}{F:List (List Pt)}(h0:Deal S0 n m) (h:MkD n m S0 c (F.map rowD) S) (hF:F.length<=100) (hs:s.1.natAbs<=6/\s.2.natAbs<=6):
  ∃(r:List Pt) (S':Store) (a9 a10 a11 a12:Option D),fB (fE n p q sl sure c (some (.int (k:Nat))) (some (.int s.1)) (some (.int s.2)) o9 o10 o11 o12) S=.nx (fE n p q sl sure c (some (.int (k:Nat))) (some (.int s.1)) (some (.int s.2)) a9 a10 a11 a12) S'/\MkD n m S0 c ((F++[r]).map rowD) S'/\zXf ((k:Int)=sure) s r:=by
 have l0:=h0.lt
 have cf:=h.far
 have cS:=(xH.mp h.at_).1
 have mk0:MkD n m S S.length (([]:List Pt).map cel) (S++[.lst []]):=MkD.new h.deal h.deal .refl []
 obtain⟨l,S2,a10,a11,a12,e2,mk2,l1,l2,lc⟩:=yBf (p:=p) (q:=q) (s:=s) (sl:=sl) (sure:=sure) (c:=c) (k:=k) (o10:=o10) (o11:=o11) (o12:=o12) h.deal mk0 hs
 obtain⟨cs,ss,nd,mem,len⟩:=zXx (l:=l) (by nofun)
 have at_:S2[c]?=some (.lst (F.map rowD)):=by rw[mk2.grow.at_ c cS (by nofun) (by nofun)];exact h.at_
 have mk3:MkD n m S0 c (F.map rowD) S2:=⟨mk2.deal,h.grow.trans mk2.grow,at_,cf⟩
 have mk4:=mk3.add h0 (rowD cs)
 have em:F.map rowD++[rowD cs]=(F++[cs]).map rowD:=by rw[xX];rfl
 rw[em]at mk4
 have ap:=zR1 (d:=rowD cs) at_ (by rw[xp];lia)
 rw[em]at ap
 have tp:zB4 S2 [.lst (cs.map cel)]=some (rowD cs):=rfl
 refine⟨cs,S2.set c (.lst ((F++[cs]).map rowD)),some (.ref S.length),a10,a11,a12,?_,mk4,⟨?_,by nofun,nd,fun x hx=>lc x ((mem x).mp hx)⟩⟩
 ·have x1:sSet 9 (eNew (eLst aNil)) (fE n p q sl sure c (some (.int (k:Nat))) (some (.int s.1)) (some (.int s.2)) o9 o10 o11 o12) S=.nx (fE n p q sl sure c (some (.int (k:Nat))) (some (.int s.1)) (some (.int s.2)) (some (.ref S.length)) o10 o11 o12) (S++[.lst []]):=by simp_arith [eNew]
  refine zA6 x1 (zA6 e2 ?_)
  simp_arith [eMt,ty_D at_,ss S2 _ mk2.at_,tp,ap]
 ·intro z
  have:l≠[]:=by intro y;rw[y]at l1;simp at l1
  obtain⟨x,t,e⟩:=ud this
  have:=(mem x).mpr (by rw[e];exact .head _)
  rw[z]at this
  cases this
noncomputable abbrev fO:SM:=(sFor (iEn false (eVar 3)) (gTup [(gName 6),(gTup [(gName 7),(gName 8)])]) fB)
theorem yBi {S0 S:Store}{n m:Nat}{p q:Pt}{sl:List Pt}{sure:Int}{c:Nat}(h0:Deal S0 n m) (h:MkD n m S0 c (([]:List (List Pt)).map rowD) S) (gs:GS sl):
  ∃(F:List (List Pt)) (S':Store) (a6 a7 a8 a9 a10 a11 a12:Option D),fO (fE n p q sl sure c none none none none none none none) S=.nx (fE n p q sl sure c a6 a7 a8 a9 a10 a11 a12) S'/\MkD n m S0 c (F.map rowD) S'/\F.length=sl.length/\Al sure sl F:=by
 obtain⟨env',S',e,F,a6,a7,a8,a9,a10,a11,a12,rfl,mk,ll,al⟩:=zH9 (h:=fun a:Pt × Nat=>D.tup [.int (a.2:Nat),cel a.1]) (gd:=[]) (g:=gTup [(gName 6),(gTup [(gName 7),(gName 8)])]) (b:=fB) (ys:=sl.zipIdx 0) (fun P env S=>∃(F:List (List Pt)) (a6 a7 a8 a9 a10 a11 a12:Option D),env=fE n p q sl sure c a6 a7 a8 a9 a10 a11 a12/\MkD n m S0 c (F.map rowD) S/\F.length=P.length/\Al sure sl F) (fun _ _ _ _=>zAi) (fun P a R eq env S hh=>by
  obtain⟨F,a6,a7,a8,a9,a10,a11,a12,rfl,mk,ll,al⟩:=hh
  have at0:(sl.zipIdx 0)[P.length]?=some a:=by rw[eq];simp
  have at1:sl[P.length]?=some a.1/\a.2=P.length:=by
   rw[List.getElem?_zipIdx]at at0
   cases q:sl[P.length]? with
   | none=>rw[q]at at0;cases at0
   | some s=>
    rw[q]at at0
    simp only[vL,ya]at at0
    rw[<- at0]
    exact⟨rfl,by simp⟩
  have pl:P.length<=3:=by
   have:=(xH.mp at1.1).1
   have:=gs.hi
   lia
  obtain⟨r,S1,b9,b10,b11,b12,e1,mk1,rk⟩:=yBk (p:=p) (q:=q) (s:=a.1) (sl:=sl) (sure:=sure) (k:=a.2) (o9:=a9) (o10:=a10) (o11:=a11) (o12:=a12) h0 mk (by nofun) (gs.b1 a.1 (v5 at1.1))
  refine⟨_,_,_,rfl,e1,F++[r],_,_,_,_,_,_,_,rfl,mk1,by rw[xy,xy,ll];rfl,fun i r' hi=>?_⟩
  by_cases d:i<F.length
  ·rw[vv d]at hi
   exact al i r' hi
  ·rw[vQ (by nofun)]at hi
   have:i=F.length:=by
    have:=(xH.mp hi).1
    rw[vI]at this
    lia
   subst this
   simp only[Nat.sub_self,uI,ya]at hi
   subst hi
   rw[ll]
   refine⟨a.1,at1.1,?_⟩
   rw[at1.2]at rk
   exact rk) (sl.zipIdx 0) [] (fE n p q sl sure c none none none none none none none) S rfl ⟨[],none,none,none,none,none,none,none,rfl,h,rfl,fun i r hi=>(by simp at hi)⟩
 refine⟨F,S',a6,a7,a8,a9,a10,a11,a12,?_,mk,by rw[ll,List.length_zipIdx],al⟩
 have w:iEn false (eVar 3) (fE n p q sl sure c none none none none none none none) S=.ok ⟨(sl.zipIdx 0).map fun a=>.tup [.int (a.2:Nat),cel a.1],[]⟩ S:=by
  have en:enW false S (.lst (sl.map cel))=some ⟨(sl.zipIdx 0).map fun a=>.tup [.int (a.2:Nat),cel a.1],[]⟩:=by
   show(if false=false/\(sl.map cel).length<2 ^ 60 then some (Walk.mk (zF9 (sl.map cel) 0) [])else none)=_
   rw[xf ⟨rfl,by rw[xp];have:=gs.hi;lia⟩,zJj]
  simp_arith [iEn,en]
 rw[fO,sFor,w,Rs.then_ok]
 exact e
end
end DP
namespace DP
open DS RW
noncomputable section
open Classical
theorem zXz (x:Int):0<=x*x:=by rw[<- Int.natAbs_mul_self];lia
theorem sq_pos {x:Int}(h:x≠0):1<=x*x:=by
 rw[<- Int.natAbs_mul_self]
 have:1*1<=x.natAbs*x.natAbs:=uc (by nofun) (by nofun)
 lia
theorem zQp {y:Prop}{s c:Pt}(h:zK4 y s c) (hs:s≠(0,0)):0<=wt s c/\(y->1<=wt s c):=by
 obtain⟨far,b,h1,h2,_,_,_,rfl⟩:=h
 have e:wt s (s.1*far-s.2*b,s.2*far+s.1*b)=(s.1*s.1+s.2*s.2)*far:=by
  unfold wt
  grind
 have n1:=zXz s.1
 have n2:=zXz s.2
 have p:1<=s.1*s.1+s.2*s.2:=by
  by_cases c:s.1=0
  ·have:s.2≠0:=fun z=>hs (Prod.ext c z)
   have:=sq_pos this
   lia
  ·have:=sq_pos c
   lia
 rw[e]
 refine⟨Int.mul_nonneg (by nofun) h2,fun z=>?_⟩
 have:=Int.mul_le_mul p (h1 z) (by decide) (by nofun)
 lia
theorem zX7 {y:Prop}{s c:Pt}(h:zK4 y s c) (hs:s.1.natAbs<=6/\s.2.natAbs<=6):c.1.natAbs<=18/\c.2.natAbs<=18:=by
 obtain⟨far,b,_,h2,h3,h4,h5,rfl⟩:=h
 have m1:(s.1*far).natAbs<=6*2:=by rw[uQ];exact uc hs.1 (by nofun)
 have m2:(s.2*far).natAbs<=6*2:=by rw[uQ];exact uc hs.2 (by nofun)
 have m3:(s.1*b).natAbs<=6*1:=by rw[uQ];exact uc hs.1 (by nofun)
 have m4:(s.2*b).natAbs<=6*1:=by rw[uQ];exact uc hs.2 (by nofun)
 exact⟨zFt m1 m4 (by decide),zEf m2 m3 (by decide)⟩
theorem zTo:∀{l:List Int},(∀x∈l,0<=x)->0<=l.sum
 | [],_=>by simp
 | a::l,h=>by
  have:=zTo (l:=l) fun x hx=>h x (.tail _ hx)
  have:=h a (.head _)
  rw[vy];lia
theorem zO0:∀{l:List Int},(∀x∈l,0<=x)->(∃x∈l,1<=x)->1<=l.sum
 | [],_,⟨x,hx,_⟩=>by cases hx
 | a::l,h,⟨x,hx,h1⟩=>by
  rw[vy]
  have a0:=h a (.head _)
  have l0:=zTo (l:=l) fun x hx=>h x (.tail _ hx)
  rcases xm.mp hx with rfl|z
  ·lia
  ·have:=zO0 (l:=l) (fun x hx=>h x (.tail _ hx)) ⟨x,z,h1⟩
   lia
theorem zPz {r:List Pt}{s:Pt}{v:Int}(hr:r≠[]) (h:∀c∈r,v<=wt s c):v<=fall r s:=by
 obtain⟨⟨c,hc,e⟩,_⟩:=zG2 (s:=s) hr
 rw[e];exact h c hc
theorem zTf {sure:Int}{sl:List Pt}{F:List (List Pt)}(gs:GS sl) (hl:F.length=sl.length) (al:Al sure sl F) (s0:0<=sure) (s9:sure<sl.length):1<=(falls F sl).sum:=by
 refine zO0 (fun x hx=>?_) ?_
 ·obtain⟨a,ha,rfl⟩:=xq.mp hx
  obtain⟨i,hi⟩:=List.getElem?_of_mem ha
  obtain⟨h1,h2⟩:=yF.mp hi
  obtain⟨s,e,rk⟩:=al i a.1 h1
  rw[h2]at e
  obtain rfl:=xJ e
  exact zPz rk.ne fun c hc=>(zQp (rk.cl c hc) (gs.nz _ (v5 h2))).1
 ·obtain⟨k,rfl⟩:∃k:Nat,sure=(k:Int):=⟨sure.toNat,by nofun⟩
  have kf:k<F.length:=by nofun
  obtain⟨s,e,rk⟩:=al k _ (xD kf)
  refine⟨fall F[k] s,xq.mpr ⟨(F[k],s),v5 (yF.mpr ⟨xD kf,e⟩),rfl⟩,?_⟩
  exact zPz rk.ne fun c hc=>(zQp (rk.cl c hc) (gs.nz _ (v5 e))).2 rfl
structure Gd (N B:Nat) (K F:List (List Pt)) (sl:List Pt):Prop where
 ok:Hld K F sl
 lo:2<=F.length
 hi:F.length<=N
 ne:∀r∈F,r≠[]
 ln:∀r∈F,r.length<=2
 bd:∀r∈F,∀c∈r,c.1.natAbs<=B/\c.2.natAbs<=B
 sb:∀s∈sl,s.1.natAbs<=6/\s.2.natAbs<=6
 kn:K≠[]
 kl:K.length<=62
 k6:∀k∈K,k.length<=6
theorem zZq {F:List (List Pt)}(h:∀q∈F,q.length<=2):F.flatten.length<=2*F.length:=by
 induction F with
 | nil=>exact xi 0
 | cons q F ih=>
  have a:=ih fun x hx=>h x (.tail _ hx)
  have b:=h q (.head _)
  rw[List.flatten_cons,xy,xE]
  lia
theorem zKj {k:Nat}{R:List (List Pt)}{sl:List Pt}:(papD R sl).low k=true:=by
 show(true && ((zAa R).low k && ((rowD sl).low k && true)))=true
 rw[show(zAa R).low k=true from zDu R,show(rowD sl).low k=true from zEg sl]
 rfl
theorem zN7 {S:Store}{n m:Nat}(h:Deal S n m):∃(F K:List (List Pt)) (sl:List Pt) (S':Store),zC6 [.ref n] S=.ok (.tup [papD F sl,zAa K]) S'/\Gd 3 18 K F sl/\Deal S' n m/\Only n m S S':=by
 obtain⟨p,q,S1,e1,hp,hq,d1,o1⟩:=yBj (l:=List.replicate 12 none) h
 obtain⟨sl,gs,e2,e3⟩:=zO8 (S:=S1) (n:=n) (o3:=none) hp hq
 have g1:=gs.lo
 have g2:=gs.hi
 obtain⟨sure,S2,e4,s0,s9,d2,o2⟩:=drawn (many:=(sl.length:Int)) (by nofun) (by nofun) d1
 have mk0:MkD n m S S2.length (([]:List (List Pt)).map rowD) (S2++[.lst []]):=MkD.new h d2 (o1.grow.trans o2.grow) []
 obtain⟨F,S3,a6,a7,a8,a9,a10,a11,a12,e5,mk,fl,al⟩:=yBi (p:=p) (q:=q) (sure:=sure) h mk0 gs
 have fm:∀r∈F,∃y s,s∈sl/\zXf y s r:=fun r hr=>by
  obtain⟨i,hi⟩:=List.getElem?_of_mem hr
  obtain⟨s,e,rk⟩:=al i r hi
  exact⟨_,s,v5 e,rk⟩
 have f2:∀r∈F,r.length<=2:=fun r hr=>by obtain⟨_,_,_,rk⟩:=fm r hr;exact rk.ln
 have fn:∀r∈F,r≠[]:=fun r hr=>by obtain⟨_,_,_,rk⟩:=fm r hr;exact rk.ne
 have fd:∀r∈F,r.Nodup:=fun r hr=>by obtain⟨_,_,_,rk⟩:=fm r hr;exact rk.nd
 obtain⟨K1,k1,lK⟩:=zI2 (S0:=S3) (v:=.ref S2.length) (rows:=F) (zHk mk.at_) (zKr mk.at_) (by nofun) fun r hr=>by have:=f2 r hr;lia
 have ne1:K1≠[]:=fun z=>by
  have:F≠[]:=by intro y;rw[y]at fl;simp at fl;lia
  obtain⟨r,t,e⟩:=ud this
  obtain⟨k,hk,_⟩:=lK.cov fd r (by rw[e];exact .head _)
  rw[z]at hk;cases hk
 have b2:∀b∈K1,b.length<=2:=fun b hb=>by
  obtain⟨r,hr,_,e,_⟩:=lK.fr b hb
  rw[e];exact f2 r hr
 have kle:=lK.len
 have fl6:=zZq b2
 obtain⟨K,k2,kn,kl,k6,km⟩:=zN6 (S0:=S3) (P:=K1) ne1 (fun b hb z=>by
   obtain⟨r,hr,_,e,_⟩:=lK.fr b hb
   rw[z]at e
   exact fn r hr (uL e.symm)) (fun b hb=>by obtain⟨r,hr,_,_,e⟩:=lK.fr b hb;exact e (fd r hr)) (by nofun) (by nofun)
 have body:zC7 ([.ref n].map some++List.replicate (13-1) none) S=.rt (.tup [papD F sl,zAa K]) S3:=by
  have x1:sUnp (gTup [(gName 1),(gName 2)]) fC ([.ref n].map some++List.replicate (13-1) none) S=.nx (fE0 n p q none) S1:=by
   rw[sUnp]
   show(fC (some (.ref n)::List.replicate 12 none) S).then _=_
   rw[e1]
   rfl
  have ln:lenB S1 [.lst (sl.map cel)]=some (.int (sl.length:Nat)):=by
   show some (D.int ((sl.map cel).length:Nat))=_
   rw[xp]
  have tF:zB4 S3 [.ref S2.length]=some (zAa F):=by
   simp only[zB4,litems,show look S3 (.ref S2.length)=_ from mk.at_,vL]
  have tS:zB4 S3 [.lst (sl.map cel)]=some (rowD sl):=rfl
  refine zA6 x1 (zA6 (e:=(fE0 n p q (some (.lst ([p,q,thr p q].map cel))))) (S1:=S1) (by simp_arith [xj]) (zA6 e2 (zA6 e3 (zA6 (e:=(fE n p q sl sure S2.length none none none none none none none)) (S1:=(S2++[.lst []])) (by simp_arith [ln,e4,eNew]) (zA6 e5 ?_)))))
  simp_arith [tF,tS,k1,k2]
 obtain⟨S4,e6,d4,o4⟩:=zHg (np:=1) (nl:=13) (b:=zC7) (ds:=[.ref n]) rfl body h mk.deal mk.grow (by
  show((papD F sl).low _ && ((zAa K).low _ && true))=true
  rw[zKj,show(zAa K).low _=true from zDu K]
  rfl)
 refine⟨F,K,sl,S4,e6,⟨⟨fl,by nofun,by nofun,fun r hr b hb=>?_,gs.sx,gs.sy,zTf gs fl al s0 s9⟩,by nofun,by nofun,fn,f2,fun r hr c hc=>?_,gs.b1,kn,kl,k6⟩,d4,o4⟩
 ·obtain⟨k,hk,sk⟩:=lK.cov fd r hr
  obtain⟨c,h1,h2⟩:=km b hb k hk
  exact⟨c,h1,sk c h2⟩
 ·obtain⟨_,s,hs,rk⟩:=fm r hr
  exact zX7 (rk.cl c hc) (gs.b1 s hs)
end
end DP
namespace DP
open DS RW
noncomputable section
open Classical
theorem zJi {F G:List (List Pt)}{sl tl:List Pt}(h:F.length=sl.length):falls (F++G) (sl++tl)=falls F sl++falls G tl:=by
 unfold falls
 rw[List.zip_append h,xX]
theorem zPy {F:List (List Pt)}{sl:List Pt}(h:F.length=sl.length):falls F.reverse sl.reverse=(falls F sl).reverse:=by
 unfold falls
 rw[<- List.map_reverse,List.zip_eq_zipWith,List.zip_eq_zipWith,List.reverse_zipWith h]
theorem Gd.twice {B:Nat}{K F:List (List Pt)}{sl:List Pt}(h:Gd 3 B K F sl):Gd 6 B K (F++F.reverse) (sl++sl.reverse):=by
 have l:=h.ok.ln
 have h1:=h.lo
 have h2:=h.hi
 have mr:∀r∈F++F.reverse,r∈F:=fun r hr=>(xG.mp hr).elim id List.mem_reverse.mp
 have ms:∀s∈sl++sl.reverse,s∈sl:=fun r hr=>(xG.mp hr).elim id List.mem_reverse.mp
 refine⟨⟨by simp[l],by simp;lia,by simp;lia,fun r hr=>h.ok.met r (mr r hr),?_,?_,?_⟩,by simp;lia,by simp;lia,fun r hr=>h.ne r (mr r hr),fun r hr=>h.ln r (mr r hr),fun r hr=>h.bd r (mr r hr),fun s hs=>h.sb s (ms s hs),h.kn,h.kl,h.k6⟩
 ·have:=h.ok.sx
  simp only[sX,xX,List.map_reverse,uO,List.sum_reverse]at *
  lia
 ·have:=h.ok.sy
  simp only[sY,xX,List.map_reverse,uO,List.sum_reverse]at *
  lia
 ·have:=h.ok.fl
  rw[zJi l,zPy l,uO,List.sum_reverse]
  lia
noncomputable abbrev mv (w c:Pt):Pt:=(c.1+w.1,c.2+w.2)
noncomputable abbrev mvR (w:Pt) (R:List (List Pt)):List (List Pt):=R.map fun r=>r.map (mv w)
theorem yA8 {s c w:Pt}:wt s (mv w c)=wt s c+wt s w:=by
 unfold wt
 show s.1*(c.1+w.1)+s.2*(c.2+w.2)=_
 rw[Int.mul_add,Int.mul_add]
 lia
theorem zWs {r:List Pt}{s w:Pt}(hr:r≠[]):fall (r.map (mv w)) s=fall r s+wt s w:=by
 have hr':r.map (mv w)≠[]:=by simpa using hr
 obtain⟨⟨c,hc,e⟩,lo⟩:=zG2 (s:=s) hr
 obtain⟨⟨c',hc',e'⟩,lo'⟩:=zG2 (s:=s) hr'
 obtain⟨d,hd,rfl⟩:=xq.mp hc'
 have a:=lo d hd
 have b:=lo' (mv w c) (xq.mpr ⟨c,hc,rfl⟩)
 rw[yA8]at e' b
 lia
theorem zM3 {w:Pt}:∀{F:List (List Pt)}{sl:List Pt},F.length=sl.length->(∀r∈F,r≠[])->(falls (mvR w F) sl).sum=(falls F sl).sum+(sX sl*w.1+sY sl*w.2)
 | [],[],_,_=>by simp[falls,mvR,sX,sY]
 | [],_::_,h,_=>by cases h
 | _::_,[],h,_=>by cases h
 | r::F,s::sl,h,hn=>by
  have ih:=zM3 (w:=w) (F:=F) (sl:=sl) (by simpa using h) fun q hq=>hn q (.tail _ hq)
  have e1:falls (mvR w (r::F)) (s::sl)=fall (r.map (mv w)) s::falls (mvR w F) sl:=rfl
  have e2:falls (r::F) (s::sl)=fall r s::falls F sl:=rfl
  rw[e1,e2,vy,vy,ih,zWs (hn r (.head _))]
  have e3:sX (s::sl)=s.1+sX sl:=by simp only[sX,xt,vy]
  have e4:sY (s::sl)=s.2+sY sl:=by simp only[sY,xt,vy]
  rw[e3,e4,Int.add_mul,Int.add_mul]
  unfold wt
  lia
theorem Gd.moved {N:Nat}{K F:List (List Pt)}{sl:List Pt}{w:Pt}(hw:w.1.natAbs<=900/\w.2.natAbs<=900) (h:Gd N 18 K F sl):Gd N 918 (mvR w K) (mvR w F) sl:=by
 have lf:(mvR w F).length=F.length:=by simp[mvR]
 have lk:(mvR w K).length=K.length:=by simp[mvR]
 have mf:∀r∈mvR w F,∃q∈F,r=q.map (mv w):=fun r hr=>by obtain⟨q,hq,e⟩:=xq.mp hr;exact⟨q,hq,e.symm⟩
 have mk:∀r∈mvR w K,∃q∈K,r=q.map (mv w):=fun r hr=>by obtain⟨q,hq,e⟩:=xq.mp hr;exact⟨q,hq,e.symm⟩
 refine⟨⟨by rw[lf];exact h.ok.ln,by rw[lf];exact h.ok.lo,by rw[lf];exact h.ok.hi,fun r hr b hb=>?_,h.ok.sx,h.ok.sy,?_⟩,by rw[lf];exact h.lo,by rw[lf];exact h.hi,fun r hr=>?_,fun r hr=>?_,fun r hr c hc=>?_,h.sb,?_,by rw[lk];exact h.kl,fun k hk=>?_⟩
 ·obtain⟨q,hq,rfl⟩:=mf r hr
  obtain⟨k,hk,rfl⟩:=mk b hb
  obtain⟨c,h1,h2⟩:=h.ok.met q hq k hk
  exact⟨mv w c,xq.mpr ⟨c,h1,rfl⟩,xq.mpr ⟨c,h2,rfl⟩⟩
 ·rw[zM3 h.ok.ln h.ne,h.ok.sx,h.ok.sy]
  have:=h.ok.fl
  lia
 ·obtain⟨q,hq,rfl⟩:=mf r hr
  simpa using h.ne q hq
 ·obtain⟨q,hq,rfl⟩:=mf r hr
  rw[xp];exact h.ln q hq
 ·obtain⟨q,hq,rfl⟩:=mf r hr
  obtain⟨d,hd,rfl⟩:=xq.mp hc
  have:=h.bd q hq d hd
  exact⟨zEf this.1 hw.1 (by decide),zEf this.2 hw.2 (by decide)⟩
 ·simpa[mvR]using h.kn
 ·obtain⟨q,hq,rfl⟩:=mk k hk
  rw[xp];exact h.k6 q hq
theorem zUg {S:Store}{r:Int}(h0:0<=r) (h9:r<4):∃f:Int,0<=f/\f<=900/\ixD S (.lst [.int 0,.int 2,.int 5,.int 900]) (.int r)=some (.int f):=by
 rcases(show r=0\/r=1\/r=2\/r=3 by nofun)with rfl|rfl|rfl|rfl
 ·exact⟨0,by decide,by decide,atL0⟩
 ·exact⟨2,by decide,by decide,atL1⟩
 ·exact⟨5,by decide,by decide,atL2⟩
 ·exact⟨900,by decide,by decide,atL3⟩
noncomputable abbrev cE (n:Nat) (F K:List (List Pt)) (sl:List Pt) (f:Int) (w:Pt) (c:Nat) (o7:Option D):Env:=[some (.ref n),some (papD F sl),some (zAa K),some (.int f),some (.int w.1),some (.int w.2),some (.ref c),o7]
noncomputable abbrev cI:EM:=(zAh 2 [1,2] (iVal (eVar 0)) (gTup [(gName 0),(gName 1)]) tYes (eTup (zA0 (eOp addD (eVar 0) (eVar 2)) (zA0 (eOp addD (eVar 1) (eVar 3)) aNil))))
noncomputable abbrev cO:EM:=(eCB zB4 (zA0 (zAh 1 [4,5] (iVal (eVar 7)) (gName 0) tYes (eCB zB4 (zA0 cI aNil))) aNil))
noncomputable abbrev cB:SM:=(zE1 (eMt "list" zC1 (eVar 6) (zA0 cO aNil)))
theorem yBt {S:Store}{n c:Nat}{F K R:List (List Pt)}{sl:List Pt}{f:Int}{w:Pt}(hl:R.length<=1000) (hr:∀r∈R,r.length<=1000):cO (cE n F K sl f w c (some (zAa R))) S=.ok (zAa (mvR w R)) S:=by
 have i:∀r∈R,eCB zB4 (zA0 cI aNil) [some (rowD r),some (.int w.1),some (.int w.2)] S=.ok (rowD (r.map (mv w))) S:=fun r h=>by
  have q:cI [some (rowD r),some (.int w.1),some (.int w.2)] S=.ok (.lst (r.map fun c=>cel (mv w c))) S:=by
   refine zB5 (xs:=r) (h:=cel) (gd:=[]) (fun env=>∃o p,env=[o,p,some (.int w.1),some (.int w.2)]) (zB9 rfl) zAi ⟨none,none,rfl⟩ (xk (hr r h) (by decide)) ?_
   rintro x hx env ⟨o,p,rfl⟩
   exact⟨[some (.int x.1),some (.int x.2),some (.int w.1),some (.int w.2)],by simp_arith [xj],⟨_,_,rfl⟩,by simp_arith [xj]⟩
  have tp:zB4 S [.lst (r.map fun c=>cel (mv w c))]=some (rowD (r.map (mv w))):=by
   show some (D.tup (r.map fun c=>cel (mv w c)))=_
   rw[rowD,xP]
   rfl
  rw[eCB,zA0,q,Rs.bind_ok,aNil,Rs.bind_ok,Rs.bind_ok,tp]
  rfl
 have q:(zAh 1 [4,5] (iVal (eVar 7)) (gName 0) tYes (eCB zB4 (zA0 cI aNil))) (cE n F K sl f w c (some (zAa R))) S=.ok (.lst (R.map fun r=>rowD (r.map (mv w)))) S:=by
  refine zB5 (xs:=R) (h:=rowD) (gd:=[]) (fun env=>∃o,env=[o,some (.int w.1),some (.int w.2)]) (zB9 rfl) zAi ⟨none,rfl⟩ (xk hl (by decide)) ?_
  rintro x hx env ⟨o,rfl⟩
  exact⟨[some (rowD x),some (.int w.1),some (.int w.2)],by simp_arith [xj],⟨_,rfl⟩,i x hx⟩
 have tp:zB4 S [.lst (R.map fun r=>rowD (r.map (mv w)))]=some (zAa (mvR w R)):=by
  show some (D.tup (R.map fun r=>rowD (r.map (mv w))))=_
  rw[zAa,xP]
  rfl
 rw[cO,eCB,zA0,q,Rs.bind_ok,aNil,Rs.bind_ok,Rs.bind_ok,tp]
 rfl
theorem yA1 {S0 S:Store}{n m c:Nat}{F K R:List (List Pt)}{sl:List Pt}{f:Int}{w:Pt}{l:List (List (List Pt))}(h0:Deal S0 n m) (h:MkD n m S0 c (l.map zAa) S) (ll:l.length<=100) (hl:R.length<=1000) (hr:∀r∈R,r.length<=1000):∃S',cB (cE n F K sl f w c (some (zAa R))) S=.nx (cE n F K sl f w c (some (zAa R))) S'/\MkD n m S0 c ((l++[mvR w R]).map zAa) S':=by
 have mk:=h.add h0 (zAa (mvR w R))
 have em:l.map zAa++[zAa (mvR w R)]=(l++[mvR w R]).map zAa:=by rw[xX];rfl
 rw[em]at mk
 have ap:=zR1 (d:=zAa (mvR w R)) h.at_ (by rw[xp];lia)
 rw[em]at ap
 refine⟨_,?_,mk⟩
 rw[cB,zE1,eMt]
 show((if tyD S (.ref c)=some "list" then _ else Rs.bad:Rs D).then _)=_
 rw[xf (ty_D h.at_),zA0,yBt hl hr,Rs.bind_ok,aNil,Rs.bind_ok,Rs.bind_ok,ap]
 rfl
theorem zNj {S:Store}{n m:Nat}{F K:List (List Pt)}{sl:List Pt}(h:Deal S n m) (fl:F.length<=1000) (fr:∀r∈F,r.length<=1000) (kl:K.length<=1000) (kr:∀r∈K,r.length<=1000):
  ∃(w:Pt) (S':Store),zBf [.ref n,papD F sl,zAa K] S=.ok (.tup [papD (mvR w F) sl,zAa (mvR w K)]) S'/\(w.1.natAbs<=900/\w.2.natAbs<=900)/\Deal S' n m/\Only n m S S':=by
 obtain⟨r,S1,e1,r0,r9,d1,o1⟩:=drawn (many:=4) (by decide) (by decide) h
 obtain⟨f,g0,g9,ef⟩:=zUg (S:=S1) r0 r9
 obtain⟨x,S2,e2,x0,x9,d2,o2⟩:=drawn (many:=2*f+1) (by nofun) (by nofun) d1
 obtain⟨y,S3,e3,y0,y9,d3,o3⟩:=drawn (many:=2*f+1) (by nofun) (by nofun) d2
 have m1:∀S,mulD S (.int 2) (.int f)=some (.int (2*f)):=fun _=>mul6 (by decide) (by nofun)
 have o:=(o1.trans o2).trans o3
 have mk0:MkD n m S S3.length (([]:List (List (List Pt))).map zAa) (S3++[.lst []]):=MkD.new h d3 o.grow []
 obtain⟨S4,e4,mk4⟩:=yA1 (F:=F) (K:=K) (R:=F) (sl:=sl) (f:=f) (w:=(x-f,y-f)) h mk0 (by simp) fl fr
 obtain⟨S5,e5,mk5⟩:=yA1 (F:=F) (K:=K) (R:=K) (sl:=sl) (f:=f) (w:=(x-f,y-f)) h mk4 (by simp) kl kr
 have i0:ixD S5 (.ref S3.length) (.int 0)=some (zAa (mvR (x-f,y-f) F)):=by
  unfold ixD
  rw[show look S5 (.ref S3.length)=_ from mk5.at_]
  exact atL0
 have i1:ixD S5 (.ref S3.length) (.int 1)=some (zAa (mvR (x-f,y-f) K)):=by
  unfold ixD
  rw[show look S5 (.ref S3.length)=_ from mk5.at_]
  exact atL1
 have body:zBh ([.ref n,papD F sl,zAa K].map some++List.replicate (8-3) none) S=.rt (.tup [papD (mvR (x-f,y-f) F) sl,zAa (mvR (x-f,y-f) K)]) S5:=by
  have x4:sFor (iVal (eTup (zA0 (eOp ixD (eVar 1) (eC (.int 1))) (zA0 (eVar 2) aNil)))) (gName 7) cB (cE n F K sl f (x-f,y-f) S3.length none) (S3++[.lst []])=.nx (cE n F K sl f (x-f,y-f) S3.length (some (zAa K))) S5:=by
   have w:iVal (eTup (zA0 (eOp ixD (eVar 1) (eC (.int 1))) (zA0 (eVar 2) aNil))) (cE n F K sl f (x-f,y-f) S3.length none) (S3++[.lst []])=.ok ⟨[zAa F,zAa K],[]⟩ (S3++[.lst []]):=by
    refine zB9 ?_
    simp_arith [xj]
   rw[sFor,w,Rs.then_ok]
   have g1:gName 7 (S3++[.lst []]) (zAa F) (cE n F K sl f (x-f,y-f) S3.length none)=some (cE n F K sl f (x-f,y-f) S3.length (some (zAa F))):=rfl
   have g2:gName 7 S4 (zAa K) (cE n F K sl f (x-f,y-f) S3.length (some (zAa F)))=some (cE n F K sl f (x-f,y-f) S3.length (some (zAa K))):=rfl
   rw[forL,xf zAi,g1]
   show(match cB (cE n F K sl f (x-f,y-f) S3.length (some (zAa F))) (S3++[.lst []])with|.nx e S1=>forL [] (gName 7) cB [zAa K] e S1|.ct e S1=>forL [] (gName 7) cB [zAa K] e S1|.bk e S1=>.nx e S1|q=>q)=_
   rw[e4]
   show forL [] (gName 7) cB [zAa K] _ S4=_
   rw[forL,xf zAi,g2]
   show(match cB (cE n F K sl f (x-f,y-f) S3.length (some (zAa K))) S4 with|.nx e S1=>forL [] (gName 7) cB [] e S1|.ct e S1=>forL [] (gName 7) cB [] e S1|.bk e S1=>.nx e S1|q=>q)=_
   rw[e5]
   show forL [] (gName 7) cB [] _ S5=_
   rw[forL,xf zAi]
  refine zA6 (e:=[some (.ref n),some (papD F sl),some (zAa K),some (.int f),none,none,none,none]) (S1:=S1) (by simp_arith [e1,ef]) (zA6 (e:=[some (.ref n),some (papD F sl),some (zAa K),some (.int f),some (.int (x-f)),some (.int (y-f)),none,none]) (S1:=S3) (by simp_arith [m1,e2,e3]) (zA6 (e:=(cE n F K sl f (x-f,y-f) S3.length none)) (S1:=(S3++[.lst []])) (by simp_arith [eNew]) (zA6 x4 ?_)))
  simp_arith [i0,i1]
 obtain⟨S6,e6,d6,o6⟩:=zHg (np:=3) (nl:=8) (b:=zBh) (ds:=[.ref n,papD F sl,zAa K]) rfl body h mk5.deal mk5.grow (by
  show((papD _ sl).low _ && ((zAa _).low _ && true))=true
  rw[zKj,show(zAa _).low _=true from zDu _]
  rfl)
 exact⟨(x-f,y-f),S6,e6,⟨by show(x-f).natAbs<=900;lia,by show(y-f).natAbs<=900;lia⟩,d6,o6⟩
end
end DP
namespace DP
open DS RW
noncomputable section
open Classical
section
variable {α:Type}{h:α->D}{l:List α}{S:Store}{i:Int}{j:Nat}
theorem zLh {n d:Nat}(e:i=(j:Int)):sIx n d (some i)=min j n:=by
 show(if i<0 then(i+(n:Int)).toNat else min i.toNat n)=_
 rw[xg (by nofun),show i.toNat=j by nofun]
theorem zIx (e:i=(j:Int)):slD S (.tup (l.map h)) (some i) none=some (.tup ((l.drop j).map h)):=by
 show some (D.tup (cutL (l.map h) (some i) none))=_
 unfold cutL
 rw[zLh e,show sIx (l.map h).length (l.map h).length none=(l.map h).length from rfl,List.map_drop,yH (by rw[vg];exact xi _)]
 congr 2
 rcases Nat.le_total j (l.map h).length with z|z
 ·rw[yA z]
 ·rw[Nat.min_eq_right z,List.drop_length,List.drop_of_length_le z]
theorem zMo (e:i=(j:Int)):slD S (.tup (l.map h)) none (some i)=some (.tup ((l.take j).map h)):=by
 show some (D.tup (cutL (l.map h) none (some i)))=_
 unfold cutL
 rw[zLh e,show sIx (l.map h).length 0 none=0 from rfl,List.drop_zero,Nat.sub_zero,List.map_take]
 congr 2
 rcases Nat.le_total j (l.map h).length with z|z
 ·rw[yA z]
 ·rw[Nat.min_eq_right z,yy,yH z]
theorem zTr {k:Int}(e:i=(j:Int)) (e2:k=((j+1:Nat):Int)) (hj:j<l.length):slD S (.tup (l.map h)) (some i) (some k)=some (.tup [h l[j]]):=by
 show some (D.tup (cutL (l.map h) (some i) (some k)))=_
 unfold cutL
 rw[zLh e,zLh e2,xp,yA (by nofun),yA (by nofun),show j+1-j=1 by nofun,<- List.map_drop,<- List.map_take,List.drop_eq_getElem_cons hj]
 rfl
theorem zH6 (e:i=(j:Int)) (hj:j<l.length):atL (l.map h) i=some (h l[j]):=by
 refine atN e ?_
 rw[vm,xD hj]
 rfl
theorem zCu {a b:Int}:addE S (.int a) (.int b)=some (.int (a+b)):=rfl
theorem zDf {m:List α}(hl:l.length+m.length<=1000):addE S (.tup (l.map h)) (.tup (m.map h))=some (.tup ((l++m).map h)):=by
 rw[zMi (by rw[xp,xp];exact xk hl (by decide)),xX]
theorem zGo {a:α}(hl:l.length<=999):addE S (.tup (l.map h)) (.tup [h a])=some (.tup ((l++[a]).map h)):=zDf (m:=[a]) (by simp;lia)
theorem zEy {a:α}(e:i=(j:Int)) (hj:j<l.length) (hl:l.length<=900) (lo:∀x:α,(h x).low S.length=true):zAc [.tup (l.map h),.int i,h a] S=.ok (.tup ((l.set j a).map h)) S:=by
 have es:l.set j a=l.take j++[a]++l.drop (j+1):=by rw[List.set_eq_take_append_cons_drop,xf hj];simp
 have lt:(l.take j).length<=l.length:=by rw[xU];exact Nat.min_le_right _ _
 have ld:(l.drop (j+1)).length<=l.length-(j+1):=by rw[vg];exact xi _
 have lt2:(l.take j).length=j:=by rw[xU];exact yA (by nofun)
 refine zCc rfl ?_ (low_iff.mpr fun x hx=>by obtain⟨y,_,rfl⟩:=xq.mp hx;exact lo y)
 have s1:=zMo (S:=S) (h:=h) (l:=l) e
 have s2:=zIx (S:=S) (h:=h) (l:=l) (i:=i+1) (j:=j+1) (by nofun)
 have a1:=zGo (S:=S) (h:=h) (l:=l.take j) (a:=a) (by nofun)
 have a2:=zDf (S:=S) (h:=h) (l:=l.take j++[a]) (m:=l.drop (j+1)) (by simp;lia)
 show(sRet _) [some (.tup (l.map h)),some (.int i),some (h a)] S=_
 simp_arith [s1,s2,zCu,a1,a2]
 rw[es]
end
structure W (N B:Nat) (R:List (List Pt)) (sl:List Pt):Prop where
 rl:R.length<=N
 sn:sl.length<=N
 ne:∀r∈R,r≠[]
 ln:∀r∈R,r.length<=N
 bd:∀r∈R,∀c∈r,c.1.natAbs<=B/\c.2.natAbs<=B
 sb:∀s∈sl,s.1.natAbs<=B/\s.2.natAbs<=B
theorem W.ty {N B:Nat}{R:List (List Pt)}{sl:List Pt}(h:W N B R sl) (hN:N<=100) (hB:B<=1000000):Ty R sl:=
 ⟨xk h.rl hN,xk h.sn hN,h.ne,fun r hr=>xk (h.ln r hr) (by nofun),fun r hr c hc=>⟨xk (h.bd r hr c hc).1 hB,xk (h.bd r hr c hc).2 hB⟩,fun s hs=>⟨xk (h.sb s hs).1 hB,xk (h.sb s hs).2 hB⟩⟩
theorem W.grw {N B N' B':Nat}{R:List (List Pt)}{sl:List Pt}(h:W N B R sl) (hN:N<=N') (hB:B<=B'):W N' B' R sl:=
 ⟨xk h.rl hN,xk h.sn hN,h.ne,fun r hr=>xk (h.ln r hr) hN,fun r hr c hc=>⟨xk (h.bd r hr c hc).1 hB,xk (h.bd r hr c hc).2 hB⟩,fun s hs=>⟨xk (h.sb s hs).1 hB,xk (h.sb s hs).2 hB⟩⟩
theorem W.slo {N B:Nat}{R:List (List Pt)}{sl tl:List Pt}(h:W N B R sl) (a:tl.length<=N) (b:∀s∈tl,s.1.natAbs<=B/\s.2.natAbs<=B):W N B R tl:=⟨h.rl,a,h.ne,h.ln,h.bd,b⟩
theorem W.row {N B:Nat}{R Q:List (List Pt)}{sl:List Pt}(h:W N B R sl) (a:Q.length<=N) (b:∀r∈Q,r≠[]/\r.length<=N/\∀c∈r,c.1.natAbs<=B/\c.2.natAbs<=B):W N B Q sl:=⟨a,h.sn,fun r hr=>(b r hr).1,fun r hr=>(b r hr).2.1,fun r hr=>(b r hr).2.2,h.sb⟩
theorem W.of {N B:Nat}{R:List (List Pt)}{sl:List Pt}(h:W N B R sl) {r:List Pt}(hr:r∈R):r≠[]/\r.length<=N/\∀c∈r,c.1.natAbs<=B/\c.2.natAbs<=B:=⟨h.ne r hr,h.ln r hr,h.bd r hr⟩
structure Sp (n m N B:Nat) (R:List (List Pt)) (sl:List Pt) (S:Store) (R':List (List Pt)) (sl':List Pt) (S':Store):Prop where
 w:W (N+1) (B+4) R' sl'
 r2:2<=R.length->1<=R'.length
 s2:2<=sl.length->1<=sl'.length
 d:Deal S' n m
 o:Only n m S S'
noncomputable abbrev pE (n:Nat) (v w:D) (R:List (List Pt)) (sl:List Pt) (f many k:Int) (b:Pt) (o9 o10:Option D):Env:=[some (.ref n),some v,some w,some (zAa R),some (rowD sl),some (.int f),some (.int many),some (.int k),some (cel b),o9,o10]
section
variable {n m N B:Nat}{v w:D}{R:List (List Pt)}{sl:List Pt}{f many k:Int}{j:Nat}{b:Pt}{o9 o10:Option D}{S:Store}
theorem eqf {c:Int}{a:SM}(h:f≠c):sIf (tB (eOp eqI (eVar 5) (eC (.int c)))) a zAv (pE n v w R sl f many k b o9 o10) S=.nx (pE n v w R sl f many k b o9 o10) S:=by
 refine zJe ?_ rfl
 simp_arith [eq_int]
 rw[xu h]
theorem eqt {c:Int}{a:SM}{q:SR}(h:f=c) (h2:a (pE n v w R sl f many k b o9 o10) S=q):sIf (tB (eOp eqI (eVar 5) (eC (.int c)))) a zAv (pE n v w R sl f many k b o9 o10) S=q:=by
 refine zPq ?_ h2
 simp_arith [eq_int]
 rw[xv h]
theorem zDs {α:Type}{l:List α}{j:Nat}{a x:α}(h:x∈l.set j a):x=a\/x∈l:=(List.mem_or_eq_of_mem_set h).symm
noncomputable abbrev q1:SM:=(sSet 4 (zAg zAc (zA0 (eVar 4) (zA0 (eVar 7) (zA0 (eTup (zA0 (eOp addE (eOp ixD (eOp ixD (eVar 4) (eVar 7)) (eC (.int 0))) (eOp ixD (eVar 8) (eC (.int 0)))) (zA0 (eOp addE (eOp ixD (eOp ixD (eVar 4) (eVar 7)) (eC (.int 1))) (eOp ixD (eVar 8) (eC (.int 1)))) aNil))) aNil)))))
noncomputable abbrev q2:SM:=(sSeq (sSet 7 (eOp modD (eOp addE (eVar 7) (eC (.int 1))) (eVar 6))) (sSet 4 (zAg zAc (zA0 (eVar 4) (zA0 (eVar 7) (zA0 (eTup (zA0 (eOp subD (eOp ixD (eOp ixD (eVar 4) (eVar 7)) (eC (.int 0))) (eOp ixD (eVar 8) (eC (.int 0)))) (zA0 (eOp subD (eOp ixD (eOp ixD (eVar 4) (eVar 7)) (eC (.int 1))) (eOp ixD (eVar 8) (eC (.int 1)))) aNil))) aNil))))))
noncomputable abbrev p1:SM:=(sIf (tB (eOp ltI (eVar 5) (eC (.int 2)))) (sSeq q1 (sIf (tB (eOp eqI (eVar 5) (eC (.int 1)))) q2 zAv)) zAv)
theorem yAm (e:k=(j:Int)) (hj:j<sl.length) (hl:sl.length<=900):q1 (pE n v w R sl f many k b o9 o10) S=.nx (pE n v w R (sl.set j (mv b sl[j])) f many k b o9 o10) S:=by
 have i:=zH6 (h:=cel) e hj
 have x:=zEy (S:=S) (h:=cel) (a:=mv b sl[j]) e hj hl fun _=>rfl
 simp_arith [i,zCu,x]
theorem yAl (hk:0<=k) (hm:0<many) (hl:sl.length<=900) (hms:many<=sl.length):∃(t:Nat) (ht:t<sl.length),q2 (pE n v w R sl f many k b o9 o10) S=.nx (pE n v w R (sl.set t (sl[t].1-b.1,sl[t].2-b.2)) f many ((k+1) % many) b o9 o10) S:=by
 have r0:=uq (k+1) (show many≠0 by nofun)
 have r9:=uo (k+1) hm
 obtain⟨t,e⟩:∃t:Nat,(k+1) % many=(t:Int):=⟨((k+1) % many).toNat,by nofun⟩
 have ht:t<sl.length:=by nofun
 refine⟨t,ht,?_⟩
 have i:=zH6 (h:=cel) e ht
 have x:=zEy (S:=S) (h:=cel) (a:=(sl[t].1-b.1,sl[t].2-b.2)) e ht hl fun _=>rfl
 simp_arith [zCu,zD8 hm,i,x]
theorem zKc (h:¬ f<2):p1 (pE n v w R sl f many k b o9 o10) S=.nx (pE n v w R sl f many k b o9 o10) S:=by
 refine zJe ?_ rfl
 simp_arith [lt_int]
 rw[xu h]
theorem yB3 (h:W N B R sl) (hN:N<=90) (d:Deal S n m) (hb:b.1.natAbs<=1/\b.2.natAbs<=1) (e:k=(j:Int)) (hj:k<many) (hms:many<=sl.length) (hf:f<2):∃sl' k',p1 (pE n v w R sl f many k b o9 o10) S=.nx (pE n v w R sl' f many k' b o9 o10) S/\Sp n m N B R sl S R sl' S:=by
 have hj':j<sl.length:=by nofun
 have hl:sl.length<=900:=by have:=h.sn;lia
 have x1:=yAm (n:=n) (v:=v) (w:=w) (R:=R) (f:=f) (many:=many) (b:=b) (o9:=o9) (o10:=o10) (S:=S) e hj' hl
 have b1:∀s∈sl.set j (mv b sl[j]),s.1.natAbs<=B+1/\s.2.natAbs<=B+1:=fun s hs=>by
  rcases zDs hs with rfl|z
  ·have:=h.sb _ (vJ hj')
   exact⟨zEf this.1 hb.1 (xi _),zEf this.2 hb.2 (xi _)⟩
  ·exact na2 (h.sb s z) (Nat.le_succ _)
 have t:tB (eOp ltI (eVar 5) (eC (.int 2))) (pE n v w R sl f many k b o9 o10) S=.ok true S:=by
  simp_arith [lt_int]
  rw[xv hf]
 have wm:=h.grw (show N<=N+1 by nofun) (show B<=B+4 by nofun)
 by_cases c:f=1
 ·obtain⟨t',ht,x2⟩:=yAl (n:=n) (v:=v) (w:=w) (R:=R) (sl:=sl.set j (mv b sl[j])) (f:=f) (many:=many) (k:=k) (b:=b) (o9:=o9) (o10:=o10) (S:=S) (by nofun) (by nofun) (by rw[vp];exact hl) (by rw[vp];exact hms)
  refine⟨_,_,zPq t (zA6 x1 (eqt c x2)),wm.slo (by rw[vp,vp];have:=h.sn;lia) fun s hs=>?_,fun z=>by nofun,fun z=>by rw[vp,vp];lia,d,.refl⟩
  rcases zDs hs with rfl|z
  ·have:=b1 _ (vJ ht)
   exact⟨zFt this.1 hb.1 (uG (show 2<=4 by decide) B),zFt this.2 hb.2 (uG (show 2<=4 by decide) B)⟩
  ·exact na2 (b1 s z) (uG (show 1<=4 by decide) B)
 ·refine⟨_,_,zPq t (zA6 x1 (eqf c)),wm.slo (by rw[vp];have:=h.sn;lia) fun s hs=>?_,fun z=>by nofun,fun z=>by rw[vp];lia,d,.refl⟩
  exact na2 (b1 s hs) (uG (show 1<=4 by decide) B)
noncomputable abbrev p2:SM:=(sSeq (sPar [9,10] (zA0 (eOp ixD (eVar 3) (eVar 7)) (zA0 (zAg zA7 (zA0 (eVar 0) (zA0 (eCB lenB (zA0 (eOp ixD (eVar 3) (eVar 7)) aNil)) aNil))) aNil)))
  (sSet 3 (zAg zAc (zA0 (eVar 3) (zA0 (eVar 7) (zA0 (zAg zAc (zA0 (eVar 9) (zA0 (eVar 10) (zA0 (eTup (zA0 (eOp addE (eOp ixD (eOp ixD (eVar 9) (eVar 10)) (eC (.int 0))) (eOp ixD (eVar 8) (eC (.int 0)))) (zA0 (eOp addE (eOp ixD (eOp ixD (eVar 9) (eVar 10)) (eC (.int 1))) (eOp ixD (eVar 8) (eC (.int 1)))) aNil))) aNil)))) aNil))))))
theorem zKi {k:Nat}(r:List Pt):(rowD r).low k=true:=zEg r
theorem yB2 (h:W N B R sl) (hN:N<=90) (d:Deal S n m) (hb:b.1.natAbs<=1/\b.2.natAbs<=1) (e:k=(j:Int)) (hj:j<R.length) (hs:2<=sl.length->1<=sl.length:=by nofun):∃R' S' o9' o10',p2 (pE n v w R sl f many k b o9 o10) S=.nx (pE n v w R' sl f many k b o9' o10') S'/\Sp n m N B R sl S R' sl S':=by
 have rm:=vJ hj
 have q:=h.of rm
 have i:=zH6 (h:=rowD) e hj
 have rp:0<R[j].length:=List.length_pos_iff.mpr q.1
 have rN:=q.2.1
 obtain⟨a,S1,e1,a0,a9,d1,o1⟩:=drawn (many:=(R[j].length:Int)) (by nofun) (by nofun) d
 obtain⟨t,et⟩:∃t:Nat,a=(t:Int):=⟨a.toNat,by nofun⟩
 have ht:t<R[j].length:=by nofun
 have lR:∀S,lenB S [rowD R[j]]=some (.int (R[j].length:Nat)):=fun S=>by rw[zC9,xp]
 have i2:=zH6 (h:=cel) et ht
 have x1:=zEy (S:=S1) (h:=cel) (a:=mv b R[j][t]) et ht (by nofun) fun _=>rfl
 have x2:=zEy (S:=S1) (h:=rowD) (a:=R[j].set t (mv b R[j][t])) e hj (by have:=h.rl;lia) zKi
 have wm:=h.grw (show N<=N+1 by nofun) (show B<=B+4 by nofun)
 refine⟨R.set j (R[j].set t (mv b R[j][t])),S1,some (rowD R[j]),some (.int a),?_,wm.row (by rw[vp];have:=h.rl;lia) fun r hr=>?_,fun z=>by rw[vp];lia,hs,d1,o1⟩
 ·have y1:sPar [9,10] (zA0 (eOp ixD (eVar 3) (eVar 7)) (zA0 (zAg zA7 (zA0 (eVar 0) (zA0 (eCB lenB (zA0 (eOp ixD (eVar 3) (eVar 7)) aNil)) aNil))) aNil)) (pE n v w R sl f many k b o9 o10) S=.nx (pE n v w R sl f many k b (some (rowD R[j])) (some (.int a))) S1:=by simp_arith [i,lR,e1]
  refine zA6 y1 ?_
  simp_arith [i2,zCu,x1,x2]
 ·rcases zDs hr with rfl|z
  ·refine⟨by simp[q.1],by rw[vp];lia,fun c hc=>?_⟩
   rcases zDs hc with rfl|y
   ·have:=q.2.2 _ (vJ ht)
    exact⟨zEf this.1 hb.1 (uG (show 1<=4 by decide) B),zEf this.2 hb.2 (uG (show 1<=4 by decide) B)⟩
   ·exact na2 (q.2.2 c y) (ub _ _)
  ·exact wm.of z
end
end
end DP
namespace DP
open DS RW
noncomputable section
open Classical
section
variable {n m N B:Nat}{v w:D}{R:List (List Pt)}{sl:List Pt}{f many k:Int}{j:Nat}{b:Pt}{o9 o10:Option D}{S:Store}
theorem zPb {α:Type}{l:List α}{j:Nat}{x:α}(h:x∈l.take j++l.drop (j+1)):x∈l:=(xG.mp h).elim yJ ye
theorem zFv {α:Type}{l:List α}{j:Nat}(hj:j<l.length):(l.take j++l.drop (j+1)).length=l.length-1:=by
 rw[xy,xU,vg];lia
noncomputable abbrev p3a:SM:=(sSet 3 (eOp addE (eSl slD (eVar 3) pNo (pYes (eVar 7))) (eSl slD (eVar 3) (pYes (eOp addE (eVar 7) (eC (.int 1)))) pNo)))
noncomputable abbrev p3b:SM:=(sSet 4 (eOp ixD (eLst (zA0 (eVar 4) (zA0 (eOp addE (eSl slD (eVar 4) pNo (pYes (eVar 7))) (eSl slD (eVar 4) (pYes (eOp addE (eVar 7) (eC (.int 1)))) pNo)) aNil))) (zAg zA7 (zA0 (eVar 0) (zA0 (eC (.int 2)) aNil)))))
theorem yB1 (h:W N B R sl) (hN:N<=90) (d:Deal S n m) (e:k=(j:Int)) (hj:j<R.length) (hj2:j<sl.length):∃R' sl' S',sSeq p3a p3b (pE n v w R sl f many k b o9 o10) S=.nx (pE n v w R' sl' f many k b o9 o10) S'/\Sp n m N B R sl S R' sl' S':=by
 have hl:=h.rl
 have hs:=h.sn
 obtain⟨a,S1,e1,a0,a9,d1,o1⟩:=drawn (many:=2) (by decide) (by decide) d
 have r1:=zMo (S:=S) (h:=rowD) (l:=R) e
 have r2:=zIx (S:=S) (h:=rowD) (l:=R) (i:=k+1) (j:=j+1) (by nofun)
 have r3:=zDf (S:=S) (h:=rowD) (l:=R.take j) (m:=R.drop (j+1)) (by rw[xU,vg];lia)
 have s1:=zMo (S:=S) (h:=cel) (l:=sl) e
 have s2:=zIx (S:=S) (h:=cel) (l:=sl) (i:=k+1) (j:=j+1) (by nofun)
 have s3:=zDf (S:=S) (h:=cel) (l:=sl.take j) (m:=sl.drop (j+1)) (by rw[xU,vg];lia)
 have x1:p3a (pE n v w R sl f many k b o9 o10) S=.nx (pE n v w (R.take j++R.drop (j+1)) sl f many k b o9 o10) S:=by simp_arith [r1,r2,r3,zCu]
 have wm:=(h.grw (show N<=N+1 by nofun) (show B<=B+4 by nofun)).row (Q:=R.take j++R.drop (j+1)) (by rw[zFv hj];lia) fun r hr=>(h.grw (show N<=N+1 by nofun) (show B<=B+4 by nofun)).of (zPb hr)
 rcases(show a=0\/a=1 by nofun)with rfl|rfl
 ·refine⟨R.take j++R.drop (j+1),sl,S1,zA6 x1 ?_,wm,fun z=>by rw[zFv hj];lia,fun z=>by nofun,d1,o1⟩
  simp_arith [s1,s2,s3,zCu,e1]
 ·refine⟨R.take j++R.drop (j+1),sl.take j++sl.drop (j+1),S1,zA6 x1 ?_,wm.slo (by rw[zFv hj2];lia) fun s hs=>wm.sb s (zPb hs),fun z=>by rw[zFv hj];lia,fun z=>by rw[zFv hj2];lia,d1,o1⟩
  simp_arith [s1,s2,s3,zCu,e1]
noncomputable abbrev p4a:SM:=(sSet 3 (eOp addE (eVar 3) (eSl slD (eVar 3) (pYes (eVar 7)) (pYes (eOp addE (eVar 7) (eC (.int 1)))))))
noncomputable abbrev p4b:SM:=(sSet 4 (eOp addE (eVar 4) (eOp ixD (eLst (zA0 (eSl slD (eVar 4) (pYes (eVar 7)) (pYes (eOp addE (eVar 7) (eC (.int 1))))) (zA0 (eTup (zA0 (eTup (zA0 (eC (.int 0)) (zA0 (eC (.int 0)) aNil))) aNil)) (zA0 (eTup aNil) aNil)))) (zAg zA7 (zA0 (eVar 0) (zA0 (eC (.int 3)) aNil))))))
theorem yB0 (h:W N B R sl) (hN:N<=90) (d:Deal S n m) (e:k=(j:Int)) (hj:j<R.length) (hj2:j<sl.length):∃R' sl' S',sSeq p4a p4b (pE n v w R sl f many k b o9 o10) S=.nx (pE n v w R' sl' f many k b o9 o10) S'/\Sp n m N B R sl S R' sl' S':=by
 have hl:=h.rl
 have hs:=h.sn
 obtain⟨a,S1,e1,a0,a9,d1,o1⟩:=drawn (many:=3) (by decide) (by decide) d
 have r1:=zTr (S:=S) (h:=rowD) (l:=R) (k:=k+1) e (by nofun) hj
 have r3:=zGo (S:=S) (h:=rowD) (l:=R) (a:=R[j]) (by nofun)
 have s1:=zTr (S:=S) (h:=cel) (l:=sl) (k:=k+1) e (by nofun) hj2
 have x1:p4a (pE n v w R sl f many k b o9 o10) S=.nx (pE n v w (R++[R[j]]) sl f many k b o9 o10) S:=by simp_arith [r1,r3,zCu]
 have wM:=h.grw (show N<=N+1 by nofun) (show B<=B+4 by nofun)
 have wm:=wM.row (Q:=R++[R[j]]) (by rw[xy,vI];lia) fun r hr=>(xG.mp hr).elim wM.of fun z=>by rw[xF.mp z];exact wM.of (vJ hj)
 have r2:2<=R.length->1<=(R++[R[j]]).length:=fun z=>by rw[xy];lia
 have sn:∀s,(sl++[s]).length<=N+1:=fun s=>by rw[xy,vI];lia
 have sn2:∀s,2<=sl.length->1<=(sl++[s]).length:=fun s z=>by rw[xy];lia
 rcases(show a=0\/a=1\/a=2 by nofun)with rfl|rfl|rfl
 ·refine⟨R++[R[j]],sl++[sl[j]],S1,zA6 x1 ?_,wm.slo (sn _) fun s hs=>(xG.mp hs).elim (wm.sb s) fun z=>by rw[xF.mp z];exact wm.sb _ (vJ hj2),r2,sn2 _,d1,o1⟩
  have ad:=zGo (S:=S1) (h:=cel) (l:=sl) (a:=sl[j]) (by nofun)
  simp_arith [s1,zCu,e1,ad]
 ·refine⟨R++[R[j]],sl++[(0,0)],S1,zA6 x1 ?_,wm.slo (sn _) fun s hs=>(xG.mp hs).elim (wm.sb s) fun z=>by rw[xF.mp z];exact⟨xR _,xR _⟩,r2,sn2 _,d1,o1⟩
  have ad:=zGo (S:=S1) (h:=cel) (l:=sl) (a:=(0,0)) (by nofun)
  simp_arith [s1,zCu,e1,ad]
 ·refine⟨R++[R[j]],sl,S1,zA6 x1 ?_,wm,r2,fun z=>by nofun,d1,o1⟩
  have ad:=zDf (S:=S1) (h:=cel) (l:=sl) (m:=[]) (by simp;lia)
  rw[v3,vf]at ad
  simp_arith [s1,zCu,e1,ad]
noncomputable abbrev p5:SM:=(sSet 3 (zAg zAc (zA0 (eVar 3) (zA0 (eVar 7) (zA0 (eOp addE (eOp ixD (eVar 3) (eVar 7)) (eTup (zA0 (eTup (zA0 (eOp subD (zAg zA7 (zA0 (eVar 0) (zA0 (eC (.int 9)) aNil))) (eC (.int 4))) (zA0 (eOp subD (zAg zA7 (zA0 (eVar 0) (zA0 (eC (.int 9)) aNil))) (eC (.int 4))) aNil))) aNil))) aNil)))))
theorem yAz (h:W N B R sl) (hN:N<=90) (d:Deal S n m) (e:k=(j:Int)) (hj:j<R.length) (hs:1<=sl.length):∃R' S',p5 (pE n v w R sl f many k b o9 o10) S=.nx (pE n v w R' sl f many k b o9 o10) S'/\Sp n m N B R sl S R' sl S':=by
 have hl:=h.rl
 obtain⟨x,S1,e1,x0,x9,d1,o1⟩:=drawn (many:=9) (by decide) (by decide) d
 obtain⟨y,S2,e2,y0,y9,d2,o2⟩:=drawn (many:=9) (by decide) (by decide) d1
 have q:=h.of (vJ hj)
 have qn:=q.2.1
 have i:=zH6 (h:=rowD) e hj
 have ad:=zGo (S:=S2) (h:=cel) (l:=R[j]) (a:=(x-4,y-4)) (by nofun)
 have xc:=zEy (S:=S2) (h:=rowD) (a:=R[j]++[(x-4,y-4)]) e hj (by nofun) zKi
 have wm:=h.grw (show N<=N+1 by nofun) (show B<=B+4 by nofun)
 refine⟨R.set j (R[j]++[(x-4,y-4)]),S2,?_,wm.row (by rw[vp];lia) fun r hr=>?_,fun z=>by rw[vp];lia,fun z=>hs,d2,o1.trans o2⟩
 ·simp_arith [i,e1,e2,ad,xc]
 ·rcases zDs hr with rfl|z
  ·refine⟨by simp,by rw[xy,vI];lia,fun c hc=>?_⟩
   rcases xG.mp hc with y'|y'
   ·exact na2 (q.2.2 c y') (ub _ _)
   ·rw[xF.mp y']
    show(x-4).natAbs<=B+4/\(y-4).natAbs<=B+4
    lia
  ·exact wm.of z
noncomputable abbrev p6:SM:=(sIf (tAnd (tB (eOp eqI (eVar 5) (eC (.int 6)))) (tB (eOp gtD (eCB lenB (zA0 (eOp ixD (eVar 3) (eVar 7)) aNil)) (eC (.int 1))))) (sSet 3 (zAg zAc (zA0 (eVar 3) (zA0 (eVar 7) (zA0 (eSl slD (eOp ixD (eVar 3) (eVar 7)) (pYes (eC (.int 1))) pNo) aNil))))) zAv)
theorem zKb (hf:f≠6):p6 (pE n v w R sl f many k b o9 o10) S=.nx (pE n v w R sl f many k b o9 o10) S:=by
 refine zJe ?_ rfl
 simp_arith [eq_int]
 rw[xu hf]
 rfl
theorem yAy (h:W N B R sl) (hN:N<=90) (d:Deal S n m) (e:k=(j:Int)) (hj:j<R.length) (hs:1<=sl.length) (hf:f=6):∃R',p6 (pE n v w R sl f many k b o9 o10) S=.nx (pE n v w R' sl f many k b o9 o10) S/\Sp n m N B R sl S R' sl S:=by
 have hl:=h.rl
 have q:=h.of (vJ hj)
 have qn:=q.2.1
 have i:=zH6 (h:=rowD) e hj
 have lR:lenB S [rowD R[j]]=some (.int (R[j].length:Nat)):=by rw[zC9,xp]
 have wm:=h.grw (show N<=N+1 by nofun) (show B<=B+4 by nofun)
 have t:tAnd (tB (eOp eqI (eVar 5) (eC (.int 6)))) (tB (eOp gtD (eCB lenB (zA0 (eOp ixD (eVar 3) (eVar 7)) aNil)) (eC (.int 1)))) (pE n v w R sl f many k b o9 o10) S=.ok (decide (1<R[j].length)) S:=by
  simp_arith [eq_int]
  rw[xv hf]
  simp_arith [i,lR,gt_int]
  congr 1
  exact xI.mpr (by nofun)
 by_cases c:1<R[j].length
 ·have s1:=zIx (S:=S) (h:=cel) (l:=R[j]) (i:=1) (j:=1) rfl
  have xc:=zEy (S:=S) (h:=rowD) (a:=R[j].drop 1) e hj (by nofun) zKi
  refine⟨R.set j (R[j].drop 1),?_,wm.row (by rw[vp];lia) fun r hr=>?_,fun z=>by rw[vp];lia,fun z=>hs,d,.refl⟩
  ·rw[p6,zEa t,xf c]
   simp_arith [i,s1,xc]
  ·rcases zDs hr with rfl|z
   ·refine⟨fun z=>?_,by rw[vg];lia,fun c hc=>?_⟩
    ·have:=congrArg List.length z
     rw[vg,v7]at this
     lia
    ·exact na2 (q.2.2 c (ye hc)) (ub _ _)
   ·exact wm.of z
 ·refine⟨R,?_,wm,fun z=>by nofun,fun z=>hs,d,.refl⟩
  rw[p6,zEa t,xg c]
  rfl
noncomputable abbrev p7:SM:=(sSet 3 (eOp addE (eSl slD (eVar 3) (pYes (eC (.int 1))) pNo) (eSl slD (eVar 3) pNo (pYes (eC (.int 1))))))
theorem yAx (h:W N B R sl) (hN:N<=90) (d:Deal S n m) (hs:1<=sl.length) (hR:1<=R.length):∃R',p7 (pE n v w R sl f many k b o9 o10) S=.nx (pE n v w R' sl f many k b o9 o10) S/\Sp n m N B R sl S R' sl S:=by
 have hl:=h.rl
 have s1:=zIx (S:=S) (h:=rowD) (l:=R) (i:=1) (j:=1) rfl
 have s2:=zMo (S:=S) (h:=rowD) (l:=R) (i:=1) (j:=1) rfl
 have ad:=zDf (S:=S) (h:=rowD) (l:=R.drop 1) (m:=R.take 1) (by rw[xU,vg];lia)
 have wm:=h.grw (show N<=N+1 by nofun) (show B<=B+4 by nofun)
 have ln:(R.drop 1++R.take 1).length=R.length:=by rw[xy,xU,vg];lia
 refine⟨R.drop 1++R.take 1,by simp_arith [s1,s2,ad],wm.row (by rw[ln];lia) fun r hr=>wm.of ((xG.mp hr).elim ye yJ),fun z=>by rw[ln];lia,fun z=>hs,d,.refl⟩
noncomputable abbrev p8:SM:=(sSet 4 (eCB zB4 (zA0 (zAh 2 [] (iVal (eVar 4)) (gTup [(gName 0),(gName 1)]) tYes (eTup (zA0 (eOp subD (eC (.int 0)) (eVar 0)) (zA0 (eOp subD (eC (.int 0)) (eVar 1)) aNil)))) aNil)))
theorem yAw (h:W N B R sl) (hN:N<=90) (d:Deal S n m) (hs:1<=sl.length) (hR:1<=R.length):∃sl',p8 (pE n v w R sl f many k b o9 o10) S=.nx (pE n v w R sl' f many k b o9 o10) S/\Sp n m N B R sl S R sl' S:=by
 have hl:=h.sn
 have wm:=h.grw (show N<=N+1 by nofun) (show B<=B+4 by nofun)
 have q:(zAh 2 [] (iVal (eVar 4)) (gTup [(gName 0),(gName 1)]) tYes (eTup (zA0 (eOp subD (eC (.int 0)) (eVar 0)) (zA0 (eOp subD (eC (.int 0)) (eVar 1)) aNil)))) (pE n v w R sl f many k b o9 o10) S=.ok (.lst (sl.map fun s=>cel (0-s.1,0-s.2))) S:=by
  refine zB5 (xs:=sl) (h:=cel) (gd:=[]) (fun env=>∃o p,env=[o,p]) (zB9 rfl) zAi ⟨none,none,rfl⟩ (xk (show sl.length<=90 by nofun) (by decide)) ?_
  rintro x hx env ⟨o,p,rfl⟩
  exact⟨[some (.int x.1),some (.int x.2)],by simp_arith [xj],⟨_,_,rfl⟩,by simp_arith [xj]⟩
 have tp:zB4 S [.lst (sl.map fun s=>cel (0-s.1,0-s.2))]=some (rowD (sl.map fun s=>(0-s.1,0-s.2))):=by
  show some (D.tup (sl.map fun s=>cel (0-s.1,0-s.2)))=_
  rw[rowD,xP]
  rfl
 refine⟨sl.map fun s=>(0-s.1,0-s.2),?_,wm.slo (by rw[xp];lia) fun s hs=>?_,fun z=>hR,fun z=>by rw[xp];exact hs,d,.refl⟩
 ·rw[p8,sSet,eCB,zA0,q,Rs.bind_ok,aNil,Rs.bind_ok,Rs.bind_ok,tp]
  rfl
 ·obtain⟨t,ht,rfl⟩:=xq.mp hs
  have:=wm.sb t ht
  exact⟨zFt (xi 0) this.1 (Nat.le_of_eq (vK _)),zFt (xi 0) this.2 (Nat.le_of_eq (vK _))⟩
end
end
end DP
namespace DP
open DS RW
noncomputable section
open Classical
section
variable {n m N B:Nat}{v w:D}{R:List (List Pt)}{sl:List Pt}{f many k:Int}{j:Nat}{b:Pt}{o9 o10:Option D}{S:Store}
theorem nf {f a c:Int}(h:f=a) (d:a≠c:=by decide):f≠c:=fun z=>d (h.symm.trans z)
theorem n2 {f c:Int}(h:f<2) (d:¬ c<2:=by decide):f≠c:=fun z=>d (z ▸ h)
noncomputable abbrev yAh:SM:=(sSeq p1
  (sSeq (sIf (tB (eOp eqI (eVar 5) (eC (.int 2)))) p2 zAv)
  (sSeq (sIf (tB (eOp eqI (eVar 5) (eC (.int 3)))) (sSeq p3a p3b) zAv)
  (sSeq (sIf (tB (eOp eqI (eVar 5) (eC (.int 4)))) (sSeq p4a p4b) zAv)
  (sSeq (sIf (tB (eOp eqI (eVar 5) (eC (.int 5)))) p5 zAv)
  (sSeq p6
  (sSeq (sIf (tB (eOp eqI (eVar 5) (eC (.int 7)))) p7 zAv)
  (sSeq (sIf (tB (eOp eqI (eVar 5) (eC (.int 8)))) p8 zAv)
  (sRet (eTup (zA0 (eVar 2) (zA0 (eVar 3) (zA0 (eVar 4) aNil)))))))))))))
theorem r_ok:(sRet (eTup (zA0 (eVar 2) (zA0 (eVar 3) (zA0 (eVar 4) aNil))))) (pE n v w R sl f many k b o9 o10) S=.rt (.tup [w,zAa R,rowD sl]) S:=by simp_arith [xj]
theorem zUn (h:W N B R sl) (hN:N<=90) (d:Deal S n m) (hb:b.1.natAbs<=1/\b.2.natAbs<=1) (e:k=(j:Int)) (hj:j<R.length) (hj2:j<sl.length) (hk:k<many) (hms:many<=sl.length) (f0:0<=f) (f9:f<9):∃R' sl' S',yAh (pE n v w R sl f many k b o9 o10) S=.rt (.tup [w,zAa R',rowD sl']) S'/\Sp n m N B R sl S R' sl' S':=by
 by_cases c:f<2
 ·obtain⟨sl',k',x,sp⟩:=yB3 (v:=v) (w:=w) (f:=f) (o9:=o9) (o10:=o10) h hN d hb e hk hms c
  exact⟨_,_,_,zA6 x (zA6 (eqf (n2 c)) (zA6 (eqf (n2 c)) (zA6 (eqf (n2 c)) (zA6 (eqf (n2 c)) (zA6 (zKb (n2 c)) (zA6 (eqf (n2 c)) (zA6 (eqf (n2 c)) r_ok))))))),sp⟩
 rcases(show f=2\/f=3\/f=4\/f=5\/f=6\/f=7\/f=8 by nofun)with q|q|q|q|q|q|q
 ·obtain⟨R',S',a9,a10,x,sp⟩:=yB2 (v:=v) (w:=w) (f:=f) (many:=many) (o9:=o9) (o10:=o10) h hN d hb e hj
  exact⟨_,_,_,zA6 (zKc c) (zA6 (eqt q x) (zA6 (eqf (nf q)) (zA6 (eqf (nf q)) (zA6 (eqf (nf q)) (zA6 (zKb (nf q)) (zA6 (eqf (nf q)) (zA6 (eqf (nf q)) r_ok))))))),sp⟩
 ·obtain⟨R',sl',S',x,sp⟩:=yB1 (v:=v) (w:=w) (f:=f) (many:=many) (b:=b) (o9:=o9) (o10:=o10) h hN d e hj hj2
  exact⟨_,_,_,zA6 (zKc c) (zA6 (eqf (nf q)) (zA6 (eqt q x) (zA6 (eqf (nf q)) (zA6 (eqf (nf q)) (zA6 (zKb (nf q)) (zA6 (eqf (nf q)) (zA6 (eqf (nf q)) r_ok))))))),sp⟩
 ·obtain⟨R',sl',S',x,sp⟩:=yB0 (v:=v) (w:=w) (f:=f) (many:=many) (b:=b) (o9:=o9) (o10:=o10) h hN d e hj hj2
  exact⟨_,_,_,zA6 (zKc c) (zA6 (eqf (nf q)) (zA6 (eqf (nf q)) (zA6 (eqt q x) (zA6 (eqf (nf q)) (zA6 (zKb (nf q)) (zA6 (eqf (nf q)) (zA6 (eqf (nf q)) r_ok))))))),sp⟩
 ·obtain⟨R',S',x,sp⟩:=yAz (v:=v) (w:=w) (f:=f) (many:=many) (b:=b) (o9:=o9) (o10:=o10) h hN d e hj (by nofun)
  exact⟨_,_,_,zA6 (zKc c) (zA6 (eqf (nf q)) (zA6 (eqf (nf q)) (zA6 (eqf (nf q)) (zA6 (eqt q x) (zA6 (zKb (nf q)) (zA6 (eqf (nf q)) (zA6 (eqf (nf q)) r_ok))))))),sp⟩
 ·obtain⟨R',x,sp⟩:=yAy (v:=v) (w:=w) (f:=f) (many:=many) (b:=b) (o9:=o9) (o10:=o10) h hN d e hj (by nofun) q
  exact⟨_,_,_,zA6 (zKc c) (zA6 (eqf (nf q)) (zA6 (eqf (nf q)) (zA6 (eqf (nf q)) (zA6 (eqf (nf q)) (zA6 x (zA6 (eqf (nf q)) (zA6 (eqf (nf q)) r_ok))))))),sp⟩
 ·obtain⟨R',x,sp⟩:=yAx (v:=v) (w:=w) (f:=f) (many:=many) (k:=k) (b:=b) (o9:=o9) (o10:=o10) h hN d (by nofun) (by nofun)
  exact⟨_,_,_,zA6 (zKc c) (zA6 (eqf (nf q)) (zA6 (eqf (nf q)) (zA6 (eqf (nf q)) (zA6 (eqf (nf q)) (zA6 (zKb (nf q)) (zA6 (eqt q x) (zA6 (eqf (nf q)) r_ok))))))),sp⟩
 ·obtain⟨sl',x,sp⟩:=yAw (v:=v) (w:=w) (f:=f) (many:=many) (k:=k) (b:=b) (o9:=o9) (o10:=o10) h hN d (by nofun) (by nofun)
  exact⟨_,_,_,zA6 (zKc c) (zA6 (eqf (nf q)) (zA6 (eqf (nf q)) (zA6 (eqf (nf q)) (zA6 (eqf (nf q)) (zA6 (zKb (nf q)) (zA6 (eqf (nf q)) (zA6 (eqt q x) r_ok))))))),sp⟩
end
theorem yBu {S:Store}{r:Int}(h0:0<=r) (h9:r<4):∃b:Pt,(b.1.natAbs<=1/\b.2.natAbs<=1)/\ixD S (.lst [cel (1,0),cel (-1,0),cel (0,1),cel (0,-1)]) (.int r)=some (cel b):=by
 rcases(show r=0\/r=1\/r=2\/r=3 by nofun)with rfl|rfl|rfl|rfl
 ·exact⟨(1,0),by decide,atL0⟩
 ·exact⟨(-1,0),by decide,atL1⟩
 ·exact⟨(0,1),by decide,atL2⟩
 ·exact⟨(0,-1),by decide,atL3⟩
theorem zIv {n m N B:Nat}{R:List (List Pt)}{sl:List Pt}{S:Store}(h:W N B R sl) (hN:N<=90) (d:Deal S n m) (hR:1<=R.length) (hs:1<=sl.length):∃R' sl' S',zBe [.ref n,papD R sl] S=.ok (papD R' sl') S'/\Sp n m N B R sl S R' sl' S':=by
 have hl:=h.rl
 have hl2:=h.sn
 obtain⟨f,S1,e1,f0,f9,d1,o1⟩:=drawn (many:=9) (by decide) (by decide) d
 obtain⟨many,em⟩:∃many:Int,many=if(sl.length:Int)<(R.length:Int)then(sl.length:Int)else(R.length:Int):=⟨_,rfl⟩
 have m1:1<=many/\many<=R.length/\many<=sl.length:=by rw[em];split <;> lia
 obtain⟨k,S2,e2,k0,k9,d2,o2⟩:=drawn (many:=many) (by nofun) (by nofun) d1
 obtain⟨r,S3,e3,r0,r9,d3,o3⟩:=drawn (many:=4) (by decide) (by decide) d2
 obtain⟨b,hb,eb⟩:=yBu (S:=S3) r0 r9
 obtain⟨j,ej⟩:∃j:Nat,k=(j:Int):=⟨k.toNat,by nofun⟩
 obtain⟨R',sl',S4,x,sp⟩:=zUn (v:=papD R sl) (w:=.str (PySem.Str.ofString "heals")) (f:=f) (many:=many) (o9:=none) (o10:=none) h hN d3 hb ej (by nofun) (by nofun) (by nofun) (by nofun) f0 f9
 have o:=((o1.trans o2).trans o3).trans sp.o
 have lR:lenB S1 [zAa R]=some (.int (R.length:Nat)):=by rw[zC9,xp]
 have lS:lenB S1 [rowD sl]=some (.int (sl.length:Nat)):=by rw[zC9,xp]
 have mi:min2B S1 [.int (R.length:Nat),.int (sl.length:Nat)]=some (.int many):=by rw[em];rfl
 refine⟨R',sl',S4,zNn rfl ?_ d sp.d o zKj,⟨sp.w,sp.r2,sp.s2,sp.d,o⟩⟩
 have ng:∀S,negD S (.int 1)=some (.int (-1)):=fun _=>rfl
 have x3:sSet 8 (eOp ixD (eLst (zA0 (eTup (zA0 (eC (.int 1)) (zA0 (eC (.int 0)) aNil))) (zA0 (eTup (zA0 (eUn negD (eC (.int 1))) (zA0 (eC (.int 0)) aNil))) (zA0 (eTup (zA0 (eC (.int 0)) (zA0 (eC (.int 1)) aNil))) (zA0 (eTup (zA0 (eC (.int 0)) (zA0 (eUn negD (eC (.int 1))) aNil))) aNil))))) (zAg zA7 (zA0 (eVar 0) (zA0 (eC (.int 4)) aNil)))) [some (.ref n),some (papD R sl),some (.str (PySem.Str.ofString "heals")),some (zAa R),some (rowD sl),some (.int f),some (.int many),some (.int k),none,none,none] S2=.nx (pE n (papD R sl) (.str (PySem.Str.ofString "heals")) R sl f many k b none none) S3:=by
  rw[ixL]at eb
  simp_arith [ng,e3,eb]
 exact zA6 (e:=[some (.ref n),some (papD R sl),some (.str (PySem.Str.ofString "heals")),some (zAa R),some (rowD sl),none,none,none,none,none,none]) (S1:=S) (by simp_arith [xj]) (zA6 (e:=[some (.ref n),some (papD R sl),some (.str (PySem.Str.ofString "heals")),some (zAa R),some (rowD sl),some (.int f),some (.int many),none,none,none,none]) (S1:=S1) (by simp_arith [e1,lR,lS,mi]) (zA6 (e:=[some (.ref n),some (papD R sl),some (.str (PySem.Str.ofString "heals")),some (zAa R),some (rowD sl),some (.int f),some (.int many),some (.int k),none,none,none]) (S1:=S2) (by simp_arith [e2]) (zA6 x3 x)))
end
end DP
namespace DP
open DS RW
noncomputable section
open Classical
theorem zW1 {S:Store}{p q:Prop}[Decidable p] [Decidable q]:neK S (.bl (decide p)) (.bl (decide q))=some (.bl (decide (¬ (p <-> q)))):=by
 show some (D.bl (!decide (decide p=decide q)))=_
 congr 2
 by_cases a:p <;> by_cases b:q <;> simp[a,b]
theorem Gd.tyP {N B:Nat}{K F:List (List Pt)}{sl:List Pt}(h:Gd N B K F sl):TyP K:=⟨by have:=h.kl;lia,fun b hb=>by have:=h.k6 b hb;lia⟩
theorem Gd.wd {N B:Nat}{K F:List (List Pt)}{sl:List Pt}(h:Gd N B K F sl) (h2:2<=N) (h6:6<=B):W N B F sl:=
 ⟨h.hi,by rw[<- h.ok.ln];exact h.hi,h.ne,fun r hr=>xk (h.ln r hr) h2,h.bd,fun s hs=>⟨xk (h.sb s hs).1 h6,xk (h.sb s hs).2 h6⟩⟩
theorem zZu {r:List Pt}(hr:r≠[]):fall r (0,0)=0:=by
 obtain⟨⟨c,_,e⟩,_⟩:=zG2 (s:=(0,0)) hr
 rw[e];unfold wt;simp
theorem zJh {r:List Pt}(hr:r≠[]):∀t:Nat,(falls (List.replicate t r) (List.replicate t (0,0))).sum=0
 | 0=>rfl
 | t+1=>by
  have e:falls (List.replicate (t+1) r) (List.replicate (t+1) (0,0))=fall r (0,0)::falls (List.replicate t r) (List.replicate t (0,0)):=rfl
  rw[e,vy,zJh hr t,zZu hr]
  rfl
theorem zHp:∀t:Nat,sX (List.replicate t (0,0))=0/\sY (List.replicate t (0,0))=0
 | 0=>⟨rfl,rfl⟩
 | t+1=>by
  obtain⟨h1,h2⟩:=zHp t
  have e1:sX (List.replicate (t+1) (0,0))=0+sX (List.replicate t (0,0)):=by simp only[sX,uh,xt,vy]
  have e2:sY (List.replicate (t+1) (0,0))=0+sY (List.replicate t (0,0)):=by simp only[sY,uh,xt,vy]
  rw[e1,e2,h1,h2]
  exact⟨rfl,rfl⟩
theorem Gd.pad {N B:Nat}{K F:List (List Pt)}{sl r:List Pt}(h:Gd N B K F sl) (hr:r∈F) (t:Nat):Hld K (F++List.replicate t r) (sl++List.replicate t (0,0)) <-> F.length+t<=8:=by
 constructor
 ·intro z
  have:=z.hi
  rw[xy,ug]at this
  exact this
 ·intro z
  have l:=h.ok.ln
  have lo:=h.lo
  have fl:=h.ok.fl
  have sx:=h.ok.sx
  have sy:=h.ok.sy
  refine⟨by simp[l],by rw[xy];lia,by rw[xy,ug];exact z,fun q hq=>?_,?_,?_,?_⟩
  ·rcases xG.mp hq with y|y
   ·exact h.ok.met q y
   ·rw[List.eq_of_mem_replicate y];exact h.ok.met r hr
  ·have:=(zHp t).1
   simp only[sX,xX,uO]at *
   lia
  ·have:=(zHp t).2
   simp only[sY,xX,uO]at *
   lia
  ·rw[zJi l,uO,zJh (h.ne r hr)]
   lia
theorem Gd.padTy {N B:Nat}{K F:List (List Pt)}{sl r:List Pt}(h:Gd N B K F sl) (hN:N<=10) (hB:B<=1000000) (hr:r∈F) {t:Nat}(ht:t<=10):Ty (F++List.replicate t r) (sl++List.replicate t (0,0)):=by
 have h1:=h.hi
 have l:=h.ok.ln
 have mr:∀q∈F++List.replicate t r,q∈F:=fun q hq=>(xG.mp hq).elim id fun y=>by rw[List.eq_of_mem_replicate y];exact hr
 refine⟨by rw[xy,ug];lia,by rw[xy,ug];lia,fun q hq=>h.ne q (mr q hq),fun q hq=>by have:=h.ln q (mr q hq);lia,fun q hq c hc=>?_,fun s hs=>?_⟩
 ·have:=h.bd q (mr q hq) c hc
  exact⟨by nofun,by nofun⟩
 ·rcases xG.mp hs with y|y
  ·have:=h.sb s y
   exact⟨by nofun,by nofun⟩
  ·rw[List.eq_of_mem_replicate y];exact⟨xR _,xR _⟩
noncomputable abbrev dB:SM:=(sSeq (sSet 5 (eOp subD (eVar 4) (eCB lenB (zA0 (eOp ixD (eVar 2) (eC (.int 1))) aNil))))
  (sSeq (sSet 6 (eTup (zA0 (eC (.str (PySem.Str.ofString "heals"))) (zA0 (eOp addE (eOp ixD (eVar 2) (eC (.int 1))) (eOp mulT (eSl slD (eOp ixD (eVar 2) (eC (.int 1))) pNo (pYes (eC (.int 1)))) (eVar 5))) (zA0 (eOp addE (eOp ixD (eVar 2) (eC (.int 2))) (eOp mulT (eTup (zA0 (eTup (zA0 (eC (.int 0)) (zA0 (eC (.int 0)) aNil))) aNil)) (eVar 5))) aNil)))))
  (sIf (tB (eOp neK (zAg zAk (zA0 (eVar 3) (zA0 (eVar 6) aNil))) (eOp ltI (eVar 4) (eC (.int 9))))) (sRet (eC (.bl false))) zAv)))
noncomputable abbrev dE (v:D) (F K:List (List Pt)) (sl:List Pt) (o4 o5 o6:Option D) (l:List (Option D)):Env:=some v::some (.ref 0)::some (papD F sl)::some (zAa K)::o4::o5::o6::l
theorem zHv {α:Type}{h:α->D}{a:α}:∀t:Nat,(List.replicate t [h a]).flatten=(List.replicate t a).map h
 | 0=>rfl
 | t+1=>by rw[uh,List.flatten_cons,zHv t];rfl
theorem yBs {S:Store}{v:D}{K F:List (List Pt)}{sl:List Pt}{o5 o6:Option D}{l:List (Option D)}{many:Int}(h:Gd 6 918 K F sl) (m0:7<=many) (m9:many<=10):∃a5 a6,dB (dE v F K sl (some (.int many)) o5 o6 l) S=.nx (dE v F K sl (some (.int many)) a5 a6 l) S:=by
 have h1:=h.hi
 have h2:=h.lo
 have hl:=h.ok.ln
 obtain⟨r,F',eF⟩:=ud (l:=F) (by intro z;rw[z]at h2;simp at h2)
 have hr:r∈F:=by rw[eF];exact .head _
 obtain⟨t,et⟩:∃t:Nat,many-(F.length:Int)=(t:Int):=⟨(many-F.length).toNat,by nofun⟩
 have lR:lenB S [zAa F]=some (.int (F.length:Nat)):=by rw[zC9,xp]
 have s1:slD S (zAa F) none (some 1)=some (.tup [rowD r]):=by
  rw[zMo (S:=S) (h:=rowD) (l:=F) (i:=1) (j:=1) rfl,eF]
  rfl
 have mt:(many-(F.length:Int)).toNat=t:=by rw[et];rfl
 have mu1:mulT S (.tup [rowD r]) (.int (many-(F.length:Int)))=some (.tup ((List.replicate t r).map rowD)):=by
  rw[zLs (by simp) (by nofun) (by nofun) (by simp),mt,zHv]
 have mu2:mulT S (.tup [.tup [.int 0,.int 0]]) (.int (many-(F.length:Int)))=some (.tup ((List.replicate t (0,0)).map cel)):=by
  rw[zLs (by simp) (by nofun) (by nofun) (by simp),mt]
  rw[show [D.tup [D.int 0,D.int 0]]=[cel (0,0)]from rfl,zHv (h:=cel)]
 have ad1:=zDf (S:=S) (h:=rowD) (l:=F) (m:=List.replicate t r) (by rw[ug];lia)
 have ad2:=zDf (S:=S) (h:=cel) (l:=sl) (m:=List.replicate t (0,0)) (by rw[ug];lia)
 refine⟨some (.int (many-(F.length:Int))),some (papD (F++List.replicate t r) (sl++List.replicate t (0,0))),?_⟩
 refine zA6 (e:=(dE v F K sl (some (.int many)) (some (.int (many-(F.length:Int)))) o6 l)) (S1:=S) (by simp_arith [lR]) (zA6 (e:=(dE v F K sl (some (.int many)) (some (.int (many-(F.length:Int)))) (some (papD (F++List.replicate t r) (sl++List.replicate t (0,0)))) l)) (S1:=S) (by simp_arith [s1,mu1,mu2,ad1,ad2]) (zJe ?_ rfl))
 have ho:=zFh (S:=S) h.tyP (h.padTy (by decide) (by decide) hr (t:=t) (by nofun))
 simp_arith [ho,lt_int,zW1]
 congr 1
 refine xu fun z=>z ?_
 rw[h.pad hr t]
 lia
theorem yBr {S:Store}{v:D}{K F:List (List Pt)}{sl:List Pt}{o4 o5 o6:Option D}{l:List (Option D)}(h:Gd 6 918 K F sl):∃a4 a5 a6,sFor (iVal (eTup (zA0 (eC (.int 7)) (zA0 (eC (.int 8)) (zA0 (eC (.int 9)) (zA0 (eC (.int 10)) aNil)))))) (gName 4) dB (dE v F K sl o4 o5 o6 l) S=.nx (dE v F K sl a4 a5 a6 l) S:=by
 obtain⟨env',S',e,a4,a5,a6,rfl,rfl⟩:=zJf (h:=D.int) (gd:=[]) (g:=gName 4) (b:=dB) (fun env S'=>∃a4 a5 a6,env=dE v F K sl a4 a5 a6 l/\S=S') (fun _ _ _=>zAi) [7,8,9,10] (dE v F K sl o4 o5 o6 l) S ⟨_,_,_,rfl,rfl⟩ (fun i hi env S1 he=>by
  obtain⟨a4,a5,a6,rfl,rfl⟩:=he
  have hi':7<=i/\i<=10:=by
   simp only[xm,vd,ve]at hi
   lia
  obtain⟨b5,b6,e⟩:=yBs (S:=S) (v:=v) (o5:=a5) (o6:=a6) (l:=l) h hi'.1 hi'.2
  exact⟨_,_,S,rfl,e,_,_,_,rfl,rfl⟩)
 refine⟨a4,a5,a6,?_⟩
 have w:iVal (eTup (zA0 (eC (.int 7)) (zA0 (eC (.int 8)) (zA0 (eC (.int 9)) (zA0 (eC (.int 10)) aNil))))) (dE v F K sl o4 o5 o6 l) S=.ok ⟨[7,8,9,10].map D.int,[]⟩ S:=zB9 rfl
 rw[sFor,w,Rs.then_ok]
 exact e
end
end DP
namespace DP
open DS RW
noncomputable section
open Classical
theorem zWj {e:EM}{env:Env}{S S1:Store}{l:List D}(h:e env S=.ok (.tup l) S1):iVal e env S=.ok ⟨l,[]⟩ S1:=by rw[iVal,h,Rs.bind_ok,zHj];rfl
theorem zT2 {α:Type}{h f:α->D}{own:Nat}{ix:List Nat}{i:IM}{gd:List (Nat × D)}{g:GM}{e:EM}{S S0:Store}{env:Env}{xs:List α}(I:Env->Prop) (hi:i env S0=.ok ⟨xs.map h,gd⟩ S) (hg:gOk S gd) (h0:I (compEnv own ix env)) (hk:xs.length<=most)
  (he:∀a∈xs,∀env,I env->∃env',g S (h a) env=some env'/\I env'/\e env' S=.ok (f a) S):zAh own ix i g tYes e env S0=.ok (.lst (xs.map f)) S:=by
 rw[zAh,hi,Rs.bind_ok]
 rw[zQi (I:=I) hg xs 0 _ h0 (by nofun) he,Rs.bind_ok]
theorem yAp {e:EM}{env:Env}{S S':Store}{c k:Nat}(h:e env S=.ok (.int (k:Nat)) S'):eOp addE (eC (.int (c:Int))) e env S=.ok (.int ((c+k:Nat):Int)) S':=by
 have ad:addE S' (.int (c:Int)) (.int (k:Nat))=some (.int ((c+k:Nat):Int)):=by
  rw[zCu]
  congr 2
 rw[eOp,eC,Rs.bind_ok,h,Rs.bind_ok,ad]
 rfl
noncomputable abbrev lE (v:D) (F K:List (List Pt)) (sl:List Pt) (o4 o5 o6 o7 o8 o9 o10 o11 o12 o13 o14:Option D) (l:List (Option D)):Env:=some v::some (.ref 0)::some (papD F sl)::some (zAa K)::o4::o5::o6::o7::o8::o9::o10::o11::o12::o13::o14::l
section
variable {S:Store}{v:D}{K F F':List (List Pt)}{r r' sl sl':List Pt}{c s:Pt}{o4 o5 o6 o7 o8 o9 o10 o11 o12 o13 o14:Option D}{l:List (Option D)}
theorem zSh {x y:Int}(h:x.natAbs<=1000000) (h':y.natAbs<=1000000):mulT S (.int x) (.int y)=some (.int (x*y)):=by rw[zSg,mul6 h h']
theorem u_ok (eF:F=(c::r')::F') (es:sl=s::sl'):sUnp (gTup [(gTup [(gName 7),(gName 8)]),(gTup [(gName 9),(gName 10)])]) (eTup (zA0 (eOp ixD (eOp ixD (eOp ixD (eVar 2) (eC (.int 1))) (eC (.int 0))) (eC (.int 0))) (zA0 (eOp ixD (eOp ixD (eVar 2) (eC (.int 2))) (eC (.int 0))) aNil))) (lE v F K sl o4 o5 o6 o7 o8 o9 o10 o11 o12 o13 o14 l) S=.nx (lE v F K sl o4 o5 o6 (some (.int c.1)) (some (.int c.2)) (some (.int s.1)) (some (.int s.2)) o11 o12 o13 o14 l) S:=by
 have i1:atL (F.map rowD) 0=some (rowD (c::r')):=by rw[eF];exact atL0
 have i2:atL (sl.map cel) 0=some (cel s):=by rw[es];exact atL0
 have i3:atL ((c::r').map cel) 0=some (cel c):=atL0
 simp_arith [i1,i2]
noncomputable abbrev lng (c s:Pt) (N:Nat):List Pt:=(List.range N).map fun(i:Nat)=>(c.1+s.1*(i:Int),c.2+s.2*(i:Int))
noncomputable abbrev lC:EM:=(zAh 1 [7,8,9,10] (zCs (zA0 (eOp addE (eC (.int 8)) (zAg zA7 (zA0 (eVar 1) (zA0 (eC (.int 50)) aNil)))) aNil)) (gName 0) tYes (eTup (zA0 (eOp addE (eVar 1) (eOp mulT (eVar 3) (eVar 0))) (zA0 (eOp addE (eVar 2) (eOp mulT (eVar 4) (eVar 0))) aNil))))
theorem zW7 (hd:Deal S 0 1) (hs:s.1.natAbs<=6/\s.2.natAbs<=6):∃(N:Nat) (S':Store),sSet 11 (eCB zB4 (zA0 lC aNil)) (lE v F K sl o4 o5 o6 (some (.int c.1)) (some (.int c.2)) (some (.int s.1)) (some (.int s.2)) o11 o12 o13 o14 l) S=.nx (lE v F K sl o4 o5 o6 (some (.int c.1)) (some (.int c.2)) (some (.int s.1)) (some (.int s.2)) (some (rowD (lng c s N))) o12 o13 o14 l) S'/\8<=N/\N<=58/\Deal S' 0 1/\Only 0 1 S S':=by
 obtain⟨a,S1,e1,a0,a9,d1,o1⟩:=drawn (many:=50) (by decide) (by decide) hd
 obtain⟨k,rfl⟩:∃k:Nat,a=(k:Int):=⟨a.toNat,by nofun⟩
 have rg:=zG1 (yAp (c:=8) (zD4 (i:=1) (env:=lE v F K sl o4 o5 o6 (some (.int c.1)) (some (.int c.2)) (some (.int s.1)) (some (.int s.2)) o11 o12 o13 o14 l) rfl e1)) (by nofun)
 have cm:lC (lE v F K sl o4 o5 o6 (some (.int c.1)) (some (.int c.2)) (some (.int s.1)) (some (.int s.2)) o11 o12 o13 o14 l) S=.ok (.lst ((List.range (8+k)).map fun(i:Nat)=>cel (c.1+s.1*(i:Int),c.2+s.2*(i:Int)))) S1:=by
  refine zT2 (xs:=List.range (8+k)) (h:=fun(i:Nat)=>D.int (i:Int)) (gd:=[]) (fun env=>∃o,env=[o,some (.int c.1),some (.int c.2),some (.int s.1),some (.int s.2)]) rg zAi ⟨none,rfl⟩ (xk (show(List.range (8+k)).length<=58 by rw[yp];lia) (by decide)) ?_
  rintro i hi env ⟨o,rfl⟩
  have hi':=vq.mp hi
  obtain⟨z,ez⟩:∃z:Int,z=(i:Int):=⟨_,rfl⟩
  have m1:=zSh (S:=S1) (x:=s.1) (y:=z) (by nofun) (by nofun)
  have m2:=zSh (S:=S1) (x:=s.2) (y:=z) (by nofun) (by nofun)
  refine⟨[some (.int (i:Int)),some (.int c.1),some (.int c.2),some (.int s.1),some (.int s.2)],rfl,⟨_,rfl⟩,?_⟩
  rw[<- ez]
  simp_arith [m1,m2,zCu]
 have tp:zB4 S1 [.lst ((List.range (8+k)).map fun(i:Nat)=>cel (c.1+s.1*(i:Int),c.2+s.2*(i:Int)))]=some (rowD (lng c s (8+k))):=by
  show some (D.tup _)=_
  rw[rowD,lng,xP]
  rfl
 refine⟨8+k,S1,?_,by nofun,by nofun,d1,o1⟩
 rw[sSet,eCB,zA0,cm,Rs.bind_ok,aNil,Rs.bind_ok,Rs.bind_ok,tp]
 rfl
noncomputable abbrev lB:SM:=(sSeq (sSet 13 (eOp addE (eOp addE (eVar 11) (eTup (zA0 (eTup (zA0 (eOp subD (eVar 7) (eOp mulT (eVar 9) (eVar 12))) (zA0 (eOp subD (eVar 8) (eOp mulT (eVar 10) (eVar 12))) aNil))) aNil))) (eSl slD (eOp ixD (eOp ixD (eVar 2) (eC (.int 1))) (eC (.int 0))) (pYes (eC (.int 1))) pNo)))
  (sSeq (sSet 14 (eTup (zA0 (eC (.str (PySem.Str.ofString "heals"))) (zA0 (eOp addE (eTup (zA0 (eVar 13) aNil)) (eSl slD (eOp ixD (eVar 2) (eC (.int 1))) (pYes (eC (.int 1))) pNo)) (zA0 (eOp ixD (eVar 2) (eC (.int 2))) aNil)))))
  (sIf (tB (eOp neK (zAg zAk (zA0 (eVar 3) (zA0 (eVar 14) aNil))) (zAg zB2 (zA0 (eVar 3) (zA0 (eVar 14) aNil))))) (sRet (eC (.bl false))) zAv)))
theorem zUx {R:List (List Pt)}{P:List (List Pt)}{tl:List Pt}{i j:Nat}{env:Env}(hP:TyP P) (hR:Ty R tl) (h1:env[i]?=some (some (zAa P))) (h2:env[j]?=some (some (papD R tl))):tB (eOp neK (zAg zAk (zA0 (eVar i) (zA0 (eVar j) aNil))) (zAg zB2 (zA0 (eVar i) (zA0 (eVar j) aNil)))) env S=.ok false S:=by
 simp_arith [h1,h2,zFh hP hR,zI8 hR,zW1]
 rw[xu fun z:¬ True=>z trivial]
theorem yBb {N:Nat}{far:Int}(h:Gd 6 918 K F sl) (eF:F=(c::r')::F') (es:sl=s::sl') (hN:N<=58) (f0:0<=far) (f9:far<=50):∃a13 a14,lB (lE v F K sl o4 o5 o6 (some (.int c.1)) (some (.int c.2)) (some (.int s.1)) (some (.int s.2)) (some (rowD (lng c s N))) (some (.int far)) o13 o14 l) S=.nx (lE v F K sl o4 o5 o6 (some (.int c.1)) (some (.int c.2)) (some (.int s.1)) (some (.int s.2)) (some (rowD (lng c s N))) (some (.int far)) a13 a14 l) S:=by
 have hm:(c::r')∈F:=by rw[eF];exact .head _
 have sm:s∈sl:=by rw[es];exact .head _
 have sb:=h.sb s sm
 have cb:=h.bd _ hm c (.head _)
 have m1:=zSh (S:=S) (x:=s.1) (y:=far) (by nofun) (by nofun)
 have m2:=zSh (S:=S) (x:=s.2) (y:=far) (by nofun) (by nofun)
 have i1:atL (F.map rowD) 0=some (rowD (c::r')):=by rw[eF];exact atL0
 have ll:(lng c s N).length=N:=by simp[lng]
 have rl:=h.ln _ hm
 rw[xE]at rl
 have a1:=zGo (S:=S) (h:=cel) (l:=lng c s N) (a:=(c.1-s.1*far,c.2-s.2*far)) (by nofun)
 have s1:=zIx (S:=S) (h:=cel) (l:=c::r') (i:=1) (j:=1) rfl
 have a2:=zDf (S:=S) (h:=cel) (l:=lng c s N++[(c.1-s.1*far,c.2-s.2*far)]) (m:=(c::r').drop 1) (by rw[xy,ll];simp;lia)
 have s2:=zIx (S:=S) (h:=rowD) (l:=F) (i:=1) (j:=1) rfl
 have hF:=h.hi
 have a3:=zDf (S:=S) (h:=rowD) (l:=[lng c s N++[(c.1-s.1*far,c.2-s.2*far)]++(c::r').drop 1]) (m:=F.drop 1) (by rw[vg,vI];lia)
 have x1:sSet 13 (eOp addE (eOp addE (eVar 11) (eTup (zA0 (eTup (zA0 (eOp subD (eVar 7) (eOp mulT (eVar 9) (eVar 12))) (zA0 (eOp subD (eVar 8) (eOp mulT (eVar 10) (eVar 12))) aNil))) aNil))) (eSl slD (eOp ixD (eOp ixD (eVar 2) (eC (.int 1))) (eC (.int 0))) (pYes (eC (.int 1))) pNo)) (lE v F K sl o4 o5 o6 (some (.int c.1)) (some (.int c.2)) (some (.int s.1)) (some (.int s.2)) (some (rowD (lng c s N))) (some (.int far)) o13 o14 l) S=.nx (lE v F K sl o4 o5 o6 (some (.int c.1)) (some (.int c.2)) (some (.int s.1)) (some (.int s.2)) (some (rowD (lng c s N))) (some (.int far)) (some (rowD (lng c s N++[(c.1-s.1*far,c.2-s.2*far)]++(c::r').drop 1))) o14 l) S:=by simp_arith [m1,m2,a1,i1,s1,a2]
 generalize eq:lng c s N++[(c.1-s.1*far,c.2-s.2*far)]++(c::r').drop 1=q at *
 have x2:sSet 14 (eTup (zA0 (eC (.str (PySem.Str.ofString "heals"))) (zA0 (eOp addE (eTup (zA0 (eVar 13) aNil)) (eSl slD (eOp ixD (eVar 2) (eC (.int 1))) (pYes (eC (.int 1))) pNo)) (zA0 (eOp ixD (eVar 2) (eC (.int 2))) aNil)))) (lE v F K sl o4 o5 o6 (some (.int c.1)) (some (.int c.2)) (some (.int s.1)) (some (.int s.2)) (some (rowD (lng c s N))) (some (.int far)) (some (rowD q)) o14 l) S=.nx (lE v F K sl o4 o5 o6 (some (.int c.1)) (some (.int c.2)) (some (.int s.1)) (some (.int s.2)) (some (rowD (lng c s N))) (some (.int far)) (some (rowD q)) (some (papD ([q]++F.drop 1) sl)) l) S:=by
  rw[xt,vf]at a3
  simp_arith [s2,a3]
  rfl
 have qb:∀x∈q,Bd x:=fun x hx=>by
  rw[<- eq]at hx
  rcases xG.mp hx with hx|hx
  ·rcases xG.mp hx with hx|hx
   ·obtain⟨i,hi,rfl⟩:=xq.mp hx
    have hi':=vq.mp hi
    have i9:(i:Int).natAbs<=58:=by rw[Int.natAbs_natCast];lia
    exact⟨zEf cb.1 (zLr sb.1 i9 (xi _)) (by decide),zEf cb.2 (zLr sb.2 i9 (xi _)) (by decide)⟩
   ·rw[xF.mp hx]
    have i9:far.natAbs<=50:=by nofun
    exact⟨zFt cb.1 (zLr sb.1 i9 (xi _)) (by decide),zFt cb.2 (zLr sb.2 i9 (xi _)) (by decide)⟩
  ·exact na2 (h.bd _ hm x (ye hx)) (by decide)
 have ql:q.length<=61:=by
  rw[<- eq,xy,xy,ll]
  simp
  lia
 have qn:q≠[]:=by rw[<- eq];simp
 have mem:∀x∈[q]++F.drop 1,x=q\/x∈F:=fun x hx=>(xG.mp hx).elim (fun z=>.inl (xF.mp z)) fun z=>.inr (ye z)
 have ty:Ty ([q]++F.drop 1) sl:=by
  have l1:=h.ok.ln
  refine⟨by rw[xy,vg,vI];lia,by nofun,fun x hx=>?_,fun x hx=>?_,fun x hx=>?_,fun t ht=>?_⟩
  ·rcases mem x hx with rfl|z
   ·exact qn
   ·exact h.ne x z
  ·rcases mem x hx with rfl|z
   ·lia
   ·have:=h.ln x z
    lia
  ·rcases mem x hx with rfl|z
   ·exact qb
   ·intro y hy
    exact na2 (h.bd x z y hy) (by decide)
  ·exact na2 (h.sb t ht) (by decide)
 exact⟨_,_,zA6 x1 (zA6 x2 (zJe (zUx h.tyP ty rfl rfl) rfl))⟩
theorem yBa {N:Nat}(hd:Deal S 0 1) (h:Gd 6 918 K F sl) (eF:F=(c::r')::F') (es:sl=s::sl') (hN:N<=58):∃a12 a13 a14 S',sFor (iVal (eTup (zA0 (eC (.int 0)) (zA0 (eC (.int 1)) (zA0 (eOp addE (eC (.int 1)) (zAg zA7 (zA0 (eVar 1) (zA0 (eC (.int 40)) aNil)))) aNil))))) (gName 12) lB (lE v F K sl o4 o5 o6 (some (.int c.1)) (some (.int c.2)) (some (.int s.1)) (some (.int s.2)) (some (rowD (lng c s N))) o12 o13 o14 l) S=.nx (lE v F K sl o4 o5 o6 (some (.int c.1)) (some (.int c.2)) (some (.int s.1)) (some (.int s.2)) (some (rowD (lng c s N))) a12 a13 a14 l) S'/\Deal S' 0 1/\Only 0 1 S S':=by
 obtain⟨a,S1,e1,a0,a9,d1,o1⟩:=drawn (many:=40) (by decide) (by decide) hd
 obtain⟨env',S',e,a12,a13,a14,rfl,rfl⟩:=zJf (h:=D.int) (gd:=[]) (g:=gName 12) (b:=lB) (fun env S'=>∃a12 a13 a14,env=lE v F K sl o4 o5 o6 (some (.int c.1)) (some (.int c.2)) (some (.int s.1)) (some (.int s.2)) (some (rowD (lng c s N))) a12 a13 a14 l/\S1=S') (fun _ _ _=>zAi) [0,1,1+a] (lE v F K sl o4 o5 o6 (some (.int c.1)) (some (.int c.2)) (some (.int s.1)) (some (.int s.2)) (some (rowD (lng c s N))) o12 o13 o14 l) S1 ⟨_,_,_,rfl,rfl⟩ (fun i hi env S2 he=>by
  obtain⟨a12,a13,a14,rfl,rfl⟩:=he
  have hi':0<=i/\i<=50:=by
   simp only[xm,vd,ve]at hi
   lia
  obtain⟨b13,b14,e⟩:=yBb (S:=S1) (v:=v) (o4:=o4) (o5:=o5) (o6:=o6) (o13:=a13) (o14:=a14) (l:=l) h eF es hN hi'.1 hi'.2
  exact⟨_,_,S1,rfl,e,_,_,_,rfl,rfl⟩)
 refine⟨a12,a13,a14,S1,?_,d1,o1⟩
 have w:iVal (eTup (zA0 (eC (.int 0)) (zA0 (eC (.int 1)) (zA0 (eOp addE (eC (.int 1)) (zAg zA7 (zA0 (eVar 1) (zA0 (eC (.int 40)) aNil)))) aNil)))) (lE v F K sl o4 o5 o6 (some (.int c.1)) (some (.int c.2)) (some (.int s.1)) (some (.int s.2)) (some (rowD (lng c s N))) o12 o13 o14 l) S=.ok ⟨[0,1,1+a].map D.int,[]⟩ S1:=by
  refine zWj ?_
  simp_arith [e1,zCu]
 rw[sFor,w,Rs.then_ok]
 exact e
end
end
end DP
namespace DP
open DS RW
noncomputable section
open Classical
theorem yBd {t:TM}{a b:SM}{env:Env}{S S1:Store}{p:Prop}[Decidable p] (h:t env S=.ok (decide p) S1):sIf t a b env S=if p then a env S1 else b env S1:=by
 rw[sIf,h,Rs.then_ok]
 by_cases c:p
 ·rw[xf c,xf (xv c)]
 ·rw[xg c,xg (by simpa using c)]
noncomputable abbrev zE (v:D) (F K:List (List Pt)) (sl:List Pt) (l:List (Option D)):Env:=some v::some (.ref 0)::some (papD F sl)::some (zAa K)::l
section
variable {S:Store}{v:D}{K F:List (List Pt)}{sl:List Pt}{l:List (Option D)}
theorem zV1 {α:Type}{h:α->D}{l:List α}:revT S (.tup (l.map h))=some (.tup (l.reverse.map h)):=by
 show some (D.tup (l.map h).reverse)=_
 rw[List.map_reverse]
theorem yAf (hd:Deal S 0 1) (h:Gd 3 18 K F sl):∃F' sl' S',(sIf (tB (eOp eqI (zAg zA7 (zA0 (eVar 1) (zA0 (eC (.int 5)) aNil))) (eC (.int 0)))) (sSet 2 (eTup (zA0 (eC (.str (PySem.Str.ofString "heals"))) (zA0 (eOp addE (eOp ixD (eVar 2) (eC (.int 1))) (eUn revT (eOp ixD (eVar 2) (eC (.int 1))))) (zA0 (eOp addE (eOp ixD (eVar 2) (eC (.int 2))) (eUn revT (eOp ixD (eVar 2) (eC (.int 2))))) aNil))))) zAv) (zE v F K sl l) S=.nx (zE v F' K sl' l) S'/\Gd 6 18 K F' sl'/\Deal S' 0 1/\Only 0 1 S S':=by
 obtain⟨a,S1,e1,a0,a9,d1,o1⟩:=drawn (many:=5) (by decide) (by decide) hd
 have h1:=h.hi
 have h2:=h.ok.ln
 have t:tB (eOp eqI (zAg zA7 (zA0 (eVar 1) (zA0 (eC (.int 5)) aNil))) (eC (.int 0))) (zE v F K sl l) S=.ok (decide (a=0)) S1:=by simp_arith [e1,eq_int]
 rw[yBd t]
 by_cases c:a=0
 ·rw[xf c]
  refine⟨F++F.reverse,sl++sl.reverse,S1,?_,h.twice,d1,o1⟩
  have a1:=zDf (S:=S1) (h:=rowD) (l:=F) (m:=F.reverse) (by rw[yG];lia)
  have a2:=zDf (S:=S1) (h:=cel) (l:=sl) (m:=sl.reverse) (by rw[yG];lia)
  simp_arith [zV1,a1,a2]
 ·rw[xg c]
  exact⟨F,sl,S1,rfl,⟨h.ok,h.lo,by nofun,h.ne,h.ln,h.bd,h.sb,h.kn,h.kl,h.k6⟩,d1,o1⟩
end
noncomputable abbrev rsD (Ks:List (List (List Pt))):D:=.lst (Ks.map zAa)
noncomputable abbrev tE (v:D) (F K:List (List Pt)) (sl:List Pt) (o4 o5 o6 o7 o8 o9 o10 o11 o12 o13 o14:Option D) (c:Nat) (o16 o17 o18:Option D):Env:=[some v,some (.ref 0),some (papD F sl),some (zAa K),o4,o5,o6,o7,o8,o9,o10,o11,o12,o13,o14,some (.ref c),o16,o17,o18]
section
variable {S:Store}{v:D}{K F R:List (List Pt)}{sl tl:List Pt}{o4 o5 o6 o7 o8 o9 o10 o11 o12 o13 o14 o15 o16 o17 o18:Option D}{c:Nat}{Ks:List (List (List Pt))}
noncomputable abbrev rS:SM:=(sSet 15 (eNew (eLst (zA0 (eVar 3) (zA0 (zAg zBb (zA0 (eOp addE (eVar 3) (eTup (zA0 (eSl slD (eOp ixD (eVar 3) (eC (.int 0))) pNo (pYes (eC (.int 1)))) aNil))) aNil)) aNil)))))
noncomputable abbrev rA:SM:=(sIf (tB (eOp gtD (eCB lenB (zA0 (eVar 3) aNil)) (eC (.int 1)))) (zE1 (eMt "list" zC1 (eVar 15) (zA0 (eSl slD (eVar 3) (pYes (eC (.int 1))) pNo) aNil))) zAv)
theorem zRj (hd:Deal S 0 1) (h:Gd 6 918 K F sl):∃(Ks:List (List (List Pt))) (S':Store),sSeq rS rA [some v,some (.ref 0),some (papD F sl),some (zAa K),o4,o5,o6,o7,o8,o9,o10,o11,o12,o13,o14,none,none,none,none] S=.nx (tE v F K sl o4 o5 o6 o7 o8 o9 o10 o11 o12 o13 o14 S.length none none none) S'/\S'[S.length]?=some (rsD Ks)/\(∀P∈Ks,TyP P)/\Deal S' 0 1:=by
 have dl:=hd.lt
 have kl:=h.kl
 obtain⟨k0,K',eK⟩:=ud h.kn
 have km:k0∈K:=by rw[eK];exact .head _
 have i1:atL (K.map rowD) 0=some (rowD k0):=by rw[eK];exact atL0
 have s1:=zMo (S:=S) (h:=cel) (l:=k0) (i:=1) (j:=1) rfl
 have a1:=zGo (S:=S) (h:=rowD) (l:=K) (a:=k0.take 1) (by nofun)
 have k6:=h.k6 k0 km
 have lt1:(k0.take 1).length<=1:=by rw[xU];exact Nat.min_le_left _ _
 have al:∀r∈K++[k0.take 1],r.length<=6:=fun r hr=>by
  rcases xG.mp hr with z|z
  ·exact h.k6 r z
  ·rw[xF.mp z];lia
 obtain⟨K2,e2,l2⟩:=zI2 (S0:=S) (v:=zAa (K++[k0.take 1])) (rows:=K++[k0.take 1]) (gd:=[]) zHj zAi (by rw[xy,vI];lia) fun r hr=>by have:=al r hr;lia
 have l2l:=l2.len
 rw[xy,vI]at l2l
 have ty2:TyP K2:=⟨by nofun,fun b hb=>by obtain⟨r,hr,_,e,_⟩:=l2.fr b hb;have:=al r hr;lia⟩
 have ty3:TyP (K.drop 1):=⟨by rw[vg];lia,fun b hb=>by have:=h.k6 b (ye hb);lia⟩
 have x1:rS [some v,some (.ref 0),some (papD F sl),some (zAa K),o4,o5,o6,o7,o8,o9,o10,o11,o12,o13,o14,none,none,none,none] S=.nx (tE v F K sl o4 o5 o6 o7 o8 o9 o10 o11 o12 o13 o14 S.length none none none) (S++[rsD [K,K2]]):=by
  simp_arith [i1,s1,a1,e2,eNew]
  rfl
 have at_:(S++[rsD [K,K2]])[S.length]?=some (rsD [K,K2]):=by simp
 have lK:lenB (S++[rsD [K,K2]]) [zAa K]=some (.int (K.length:Nat)):=by rw[zC9,xp]
 have t:tB (eOp gtD (eCB lenB (zA0 (eVar 3) aNil)) (eC (.int 1))) (tE v F K sl o4 o5 o6 o7 o8 o9 o10 o11 o12 o13 o14 S.length none none none) (S++[rsD [K,K2]])=.ok (decide (1<K.length)) (S++[rsD [K,K2]]):=by
  simp_arith [lK,gt_int]
  congr 1
  exact xI.mpr (by nofun)
 by_cases q:1<K.length
 ·have s2:=zIx (S:=S++[rsD [K,K2]]) (h:=rowD) (l:=K) (i:=1) (j:=1) rfl
  have ap:=zR1 (d:=zAa (K.drop 1)) at_ (by simp)
  refine⟨[K,K2,K.drop 1],(S++[rsD [K,K2]]).set S.length (rsD [K,K2,K.drop 1]),zA6 x1 ?_,by simp,fun P hP=>?_,(hd.app _).set (by nofun) (by nofun)⟩
  ·rw[rA,zEa t,xf q]
   simp_arith [eMt,ty_D at_,s2]
   rw[ap]
   rfl
  ·simp only[xm,vd,ve]at hP
   rcases hP with rfl|rfl|rfl
   ·exact h.tyP
   ·exact ty2
   ·exact ty3
 ·refine⟨[K,K2],S++[rsD [K,K2]],zA6 x1 ?_,at_,fun P hP=>?_,hd.app _⟩
  ·rw[rA,zEa t,xg q]
   rfl
  ·simp only[xm,vd,ve]at hP
   rcases hP with rfl|rfl
   ·exact h.tyP
   ·exact ty2
noncomputable abbrev wB:SM:=(sIf (tB (eOp gtD (eCB lenB (zA0 (eOp ixD (eVar 14) (eC (.int 1))) aNil)) (eC (.int 0)))) (sSeq (sSet 18 (zAg zAk (zA0 (eVar 17) (zA0 (eVar 14) aNil))))
  (sIf (tOr (tNot (tTru (eCB isiQ (zA0 (eVar 18) (zA0 (eC (.ty "bool")) aNil))))) (tB (eOp neK (eVar 18) (zAg zB2 (zA0 (eVar 17) (zA0 (eVar 14) aNil)))))) (sRet (eC (.bl false))) zAv)) zAv)
theorem yAc {P:List (List Pt)}(hP:TyP P) (hR:Ty R tl):∃a18,wB (tE v F K sl o4 o5 o6 o7 o8 o9 o10 o11 o12 o13 (some (papD R tl)) c o16 (some (zAa P)) o18) S=.nx (tE v F K sl o4 o5 o6 o7 o8 o9 o10 o11 o12 o13 (some (papD R tl)) c o16 (some (zAa P)) a18) S:=by
 have lR:lenB S [zAa R]=some (.int (R.length:Nat)):=by rw[zC9,xp]
 have t:tB (eOp gtD (eCB lenB (zA0 (eOp ixD (eVar 14) (eC (.int 1))) aNil)) (eC (.int 0))) (tE v F K sl o4 o5 o6 o7 o8 o9 o10 o11 o12 o13 (some (papD R tl)) c o16 (some (zAa P)) o18) S=.ok (decide ((0:Int)<(R.length:Nat))) S:=by simp_arith [lR,gt_int]
 rw[wB,zEa t]
 by_cases q:(0:Int)<(R.length:Nat)
 ·rw[xf q]
  refine⟨some (.bl (decide (Hld P R tl))),?_⟩
  refine zA6 (e:=(tE v F K sl o4 o5 o6 o7 o8 o9 o10 o11 o12 o13 (some (papD R tl)) c o16 (some (zAa P)) (some (.bl (decide (Hld P R tl)))))) (S1:=S) (by simp_arith [zFh hP hR]) (zJe ?_ rfl)
  have i:=zWi (S:=S) (zZn (b:=decide (Hld P R tl)))
  rw[tOr]
  have t1:tNot (tTru (eCB isiQ (zA0 (eVar 18) (zA0 (eC (.ty "bool")) aNil)))) (tE v F K sl o4 o5 o6 o7 o8 o9 o10 o11 o12 o13 (some (papD R tl)) c o16 (some (zAa P)) (some (.bl (decide (Hld P R tl))))) S=.ok false S:=by simp_arith [i,tTru,tru]
  rw[t1,Rs.bind_ok,xg (by decide)]
  simp_arith [zI8 hR,zW1]
  rw[xu fun z:¬ True=>z trivial]
 ·rw[xg q]
  exact⟨o18,rfl⟩
noncomputable abbrev wW:SM:=(sFor (iVal (eVar 15)) (gName 17) wB)
theorem yAb (at_:S[c]?=some (rsD Ks)) (hK:∀P∈Ks,TyP P) (hR:Ty R tl):∃a17 a18,wW (tE v F K sl o4 o5 o6 o7 o8 o9 o10 o11 o12 o13 (some (papD R tl)) c o16 o17 o18) S=.nx (tE v F K sl o4 o5 o6 o7 o8 o9 o10 o11 o12 o13 (some (papD R tl)) c o16 a17 a18) S:=by
 obtain⟨env',S',e,a17,a18,rfl,rfl⟩:=zJf (h:=zAa) (gd:=[(c,rsD Ks)]) (g:=gName 17) (b:=wB) (fun env S'=>∃a17 a18,env=tE v F K sl o4 o5 o6 o7 o8 o9 o10 o11 o12 o13 (some (papD R tl)) c o16 a17 a18/\S=S') (fun _ _ z=>by obtain⟨_,_,_,rfl⟩:=z;exact zKr at_) Ks (tE v F K sl o4 o5 o6 o7 o8 o9 o10 o11 o12 o13 (some (papD R tl)) c o16 o17 o18) S ⟨_,_,rfl,rfl⟩ (fun P hP env S1 he=>by
  obtain⟨a17,a18,rfl,rfl⟩:=he
  obtain⟨b18,e⟩:=yAc (S:=S) (v:=v) (F:=F) (K:=K) (sl:=sl) (o4:=o4) (o5:=o5) (o6:=o6) (o7:=o7) (o8:=o8) (o9:=o9) (o10:=o10) (o11:=o11) (o12:=o12) (o13:=o13) (c:=c) (o16:=o16) (o18:=a18) (hK P hP) hR
  exact⟨_,_,S,rfl,e,_,_,rfl,rfl⟩)
 refine⟨a17,a18,?_⟩
 have w:iVal (eVar 15) (tE v F K sl o4 o5 o6 o7 o8 o9 o10 o11 o12 o13 (some (papD R tl)) c o16 o17 o18) S=.ok ⟨Ks.map zAa,[(c,rsD Ks)]⟩ S:=by
  rw[iVal]
  show(lift (zCa S (.ref c)) S)=_
  rw[zHk at_]
  rfl
 rw[wW,sFor,w,Rs.then_ok]
 exact e
noncomputable abbrev tA:SM:=(sSet 14 (eOp ixD (eLst (zA0 (eVar 2) (zA0 (zAg zBe (zA0 (eVar 1) (zA0 (eVar 2) aNil))) aNil))) (eCB intB (zA0 (eOp gtD (eVar 16) (eC (.int 0))) aNil))))
noncomputable abbrev tC:SM:=(sIf (tB (eOp gtD (eVar 16) (eC (.int 3)))) (sSet 14 (zAg zBe (zA0 (eVar 1) (zA0 (eVar 14) aNil)))) zAv)
theorem zUi {i:Nat}(hd:Deal S 0 1) (h:Gd 6 918 K F sl) (h0:2<=c) (at_:S[c]?=some (rsD Ks)) (hK:∀P∈Ks,TyP P):∃a14 a17 a18 S',sSeq tA (sSeq tC wW) (tE v F K sl o4 o5 o6 o7 o8 o9 o10 o11 o12 o13 o14 c (some (.int (i:Int))) o17 o18) S=.nx (tE v F K sl o4 o5 o6 o7 o8 o9 o10 o11 o12 o13 a14 c (some (.int (i:Int))) a17 a18) S'/\Deal S' 0 1/\S'[c]?=some (rsD Ks):=by
 have lo:=h.lo
 have ln:=h.ok.ln
 have w0:W 6 918 F sl:=h.wd (by decide) (by decide)
 obtain⟨R1,t1,S1,e1,sp1⟩:=zIv w0 (by decide) hd (by nofun) (by nofun)
 have at1:S1[c]?=some (rsD Ks):=by rw[sp1.o.at_ c (by nofun) (by nofun)];exact at_
 have g:∀x y:Int,gtD S1 (.int x) (.int y)=some (.bl (decide (y<x))):=fun _ _=>rfl
 have ft:∃R2 t2,tA (tE v F K sl o4 o5 o6 o7 o8 o9 o10 o11 o12 o13 o14 c (some (.int (i:Int))) o17 o18) S=.nx (tE v F K sl o4 o5 o6 o7 o8 o9 o10 o11 o12 o13 (some (papD R2 t2)) c (some (.int (i:Int))) o17 o18) S1/\W 7 922 R2 t2/\1<=R2.length/\1<=t2.length:=by
  by_cases q:(0:Int)<(i:Int)
  ·have it:intB S1 [.bl (decide ((0:Int)<(i:Int)))]=some (.int 1):=by rw[xv q];rfl
   exact⟨R1,t1,by simp_arith [e1,g,it],sp1.w,sp1.r2 lo,sp1.s2 (by nofun)⟩
  ·have it:intB S1 [.bl (decide ((0:Int)<(i:Int)))]=some (.int 0):=by rw[xu q];rfl
   exact⟨F,sl,by simp_arith [e1,g,it],w0.grw (by decide) (by decide),by nofun,by nofun⟩
 obtain⟨R2,t2,x1,w2,r2,s2⟩:=ft
 have st:∃R3 t3 S3,tC (tE v F K sl o4 o5 o6 o7 o8 o9 o10 o11 o12 o13 (some (papD R2 t2)) c (some (.int (i:Int))) o17 o18) S1=.nx (tE v F K sl o4 o5 o6 o7 o8 o9 o10 o11 o12 o13 (some (papD R3 t3)) c (some (.int (i:Int))) o17 o18) S3/\W 8 926 R3 t3/\Deal S3 0 1/\S3[c]?=some (rsD Ks):=by
  have t:tB (eOp gtD (eVar 16) (eC (.int 3))) (tE v F K sl o4 o5 o6 o7 o8 o9 o10 o11 o12 o13 (some (papD R2 t2)) c (some (.int (i:Int))) o17 o18) S1=.ok (decide ((3:Int)<(i:Int))) S1:=by simp_arith [g]
  by_cases q:(3:Int)<(i:Int)
  ·obtain⟨R3,t3,S3,e3,sp3⟩:=zIv w2 (by decide) sp1.d r2 s2
   refine⟨R3,t3,S3,?_,sp3.w,sp3.d,by rw[sp3.o.at_ c (by nofun) (by nofun)];exact at1⟩
   rw[tC,zEa t,xf q]
   simp_arith [e3]
  ·refine⟨R2,t2,S1,?_,w2.grw (by decide) (by decide),sp1.d,at1⟩
   rw[tC,zEa t,xg q]
   rfl
 obtain⟨R3,t3,S3,x2,w3,d3,at3⟩:=st
 obtain⟨a17,a18,x3⟩:=yAb (v:=v) (F:=F) (K:=K) (sl:=sl) (o4:=o4) (o5:=o5) (o6:=o6) (o7:=o7) (o8:=o8) (o9:=o9) (o10:=o10) (o11:=o11) (o12:=o12) (o13:=o13) (o16:=some (.int (i:Int))) (o17:=o17) (o18:=o18) at3 hK (w3.ty (by decide) (by decide))
 exact⟨_,a17,a18,S3,zA6 x1 (zA6 x2 x3),d3,at3⟩
theorem zR9 (hd:Deal S 0 1) (h:Gd 6 918 K F sl) (h0:2<=c) (at_:S[c]?=some (rsD Ks)) (hK:∀P∈Ks,TyP P):∃a14 a16 a17 a18 S',sFor (zCs (zA0 (eC (.int 6)) aNil)) (gName 16) (sSeq tA (sSeq tC wW)) (tE v F K sl o4 o5 o6 o7 o8 o9 o10 o11 o12 o13 o14 c o16 o17 o18) S=.nx (tE v F K sl o4 o5 o6 o7 o8 o9 o10 o11 o12 o13 a14 c a16 a17 a18) S':=by
 obtain⟨env',S',e,a14,a16,a17,a18,rfl,_⟩:=zJf (h:=fun(i:Nat)=>D.int (i:Int)) (gd:=[]) (g:=gName 16) (b:=sSeq tA (sSeq tC wW)) (fun env S'=>∃a14 a16 a17 a18,env=tE v F K sl o4 o5 o6 o7 o8 o9 o10 o11 o12 o13 a14 c a16 a17 a18/\Deal S' 0 1/\S'[c]?=some (rsD Ks)) (fun _ _ _=>zAi) (List.range 6) (tE v F K sl o4 o5 o6 o7 o8 o9 o10 o11 o12 o13 o14 c o16 o17 o18) S ⟨_,_,_,_,rfl,hd,at_⟩ (fun i hi env S1 he=>by
  obtain⟨a14,a16,a17,a18,rfl,d1,at1⟩:=he
  obtain⟨b14,b17,b18,S2,e,d2,at2⟩:=zUi (v:=v) (o4:=o4) (o5:=o5) (o6:=o6) (o7:=o7) (o8:=o8) (o9:=o9) (o10:=o10) (o11:=o11) (o12:=o12) (o13:=o13) (o14:=a14) (o17:=a17) (o18:=a18) (i:=i) d1 h h0 at1 hK
  exact⟨_,_,S2,rfl,e,_,_,_,_,rfl,d2,at2⟩)
 refine⟨a14,a16,a17,a18,S',?_⟩
 have w:=zG1 (n:=6) (e:=eC (.int 6)) (env:=tE v F K sl o4 o5 o6 o7 o8 o9 o10 o11 o12 o13 o14 c o16 o17 o18) (S:=S) (S':=S) rfl (by decide)
 rw[sFor,w,Rs.then_ok]
 exact e
end
theorem zWq {v:Bool}{S:Store}:fin [] (.bl v) S=.ok (.bl v) []:=by
 unfold fin
 rw[xf (show keeps ([]:Store).length [] S from trivial),xf (show(D.bl v).low ([]:Store).length=true from rfl)]
 rfl
theorem zX2:zCk=zIk 1 4 zQz:=rfl
theorem law_ok (ns:List Int) (hn:ns.length<=63):∃S,zN9 [.klst (ns.map .int)] []=.ok (.bl true) S:=by
 obtain⟨S1,e1,d1,_,_⟩:=zT7 (S:=[]) hn
 rw[<- zX2]at e1
 obtain⟨F0,K0,sl0,S2,e2,g2,d2,o2⟩:=zN7 (n:=0) (m:=1) d1
 obtain⟨F1,sl1,S3,x3,g3,d3,o3⟩:=yAf (v:=.klst (ns.map .int)) (l:=List.replicate 15 none) d2 g2
 obtain⟨w,S4,e4,hw,d4,o4⟩:=zNj (F:=F1) (K:=K0) (sl:=sl1) d3 (by have:=g3.hi;lia) (fun r hr=>by have:=g3.ln r hr;lia) (by have:=g3.kl;lia) (fun r hr=>by have:=g3.k6 r hr;lia)
 have g:=g3.moved hw
 obtain⟨F,eF⟩:∃F,F=mvR w F1:=⟨_,rfl⟩
 obtain⟨K,eK⟩:∃K,K=mvR w K0:=⟨_,rfl⟩
 rw[<- eF,<- eK]at g e4
 obtain⟨a4,a5,a6,x5⟩:=yBr (S:=S4) (v:=.klst (ns.map .int)) (o4:=none) (o5:=none) (o6:=none) (l:=List.replicate 12 none) g
 have lo:=g.lo
 have ln:=g.ok.ln
 obtain⟨r,F',eF1⟩:=ud (l:=F) (by intro z;rw[z]at lo;simp at lo)
 obtain⟨c,r',er⟩:=ud (l:=r) (g.ne r (by rw[eF1];exact .head _))
 obtain⟨s,sl',es⟩:=ud (l:=sl1) (by intro z;rw[z]at ln;rw[ln]at lo;simp at lo)
 subst er
 have hs:=g.sb s (by rw[es];exact .head _)
 have x6:=u_ok (S:=S4) (v:=.klst (ns.map .int)) (K:=K) (o4:=a4) (o5:=a5) (o6:=a6) (o7:=none) (o8:=none) (o9:=none) (o10:=none) (o11:=none) (o12:=none) (o13:=none) (o14:=none) (l:=List.replicate 4 none) eF1 es
 obtain⟨N,S5,x7,_,hN,d5,o5⟩:=zW7 (v:=.klst (ns.map .int)) (F:=F) (K:=K) (sl:=sl1) (c:=c) (o4:=a4) (o5:=a5) (o6:=a6) (o11:=none) (o12:=none) (o13:=none) (o14:=none) (l:=List.replicate 4 none) d4 hs
 obtain⟨a12,a13,a14,S6,x8,d6,o6⟩:=yBa (v:=.klst (ns.map .int)) (o4:=a4) (o5:=a5) (o6:=a6) (o12:=none) (o13:=none) (o14:=none) (l:=List.replicate 4 none) d5 g eF1 es hN
 have gt:=(g.wd (by decide) (by decide)).ty (by decide) (by decide)
 have ho:=fun S=>zFh (S:=S) g.tyP gt
 have he:=fun S=>zI8 (S:=S) (P:=K) gt
 obtain⟨Ks,S7,x10,at7,hK,d7⟩:=zRj (S:=S6) (v:=.klst (ns.map .int)) (o4:=a4) (o5:=a5) (o6:=a6) (o7:=some (.int c.1)) (o8:=some (.int c.2)) (o9:=some (.int s.1)) (o10:=some (.int s.2)) (o11:=some (rowD (lng c s N))) (o12:=a12) (o13:=a13) (o14:=a14) d6 g
 have l6:=d6.lt
 obtain⟨b14,b16,b17,b18,S8,x12⟩:=zR9 (v:=.klst (ns.map .int)) (o4:=a4) (o5:=a5) (o6:=a6) (o7:=some (.int c.1)) (o8:=some (.int c.2)) (o9:=some (.int s.1)) (o10:=some (.int s.2)) (o11:=some (rowD (lng c s N))) (o12:=a12) (o13:=a13) (o14:=a14) (o16:=none) (o17:=none) (o18:=none) d7 g (by nofun) at7 hK
 rw[xv g.ok]at ho he
 refine⟨[],?_⟩
 unfold zN9 zBp
 rw[xf (show [D.klst (ns.map .int)].length=1 from rfl)]
 suffices hb':zXa ([D.klst (ns.map .int)].map some++List.replicate (19-1) none) []=.rt (.bl true) S8 by rw[hb'];exact zWq
 have y1:sSet 1 (zAg zCk (zA0 (eVar 0) aNil)) ([D.klst (ns.map .int)].map some++List.replicate (19-1) none) []=.nx (some (.klst (ns.map .int))::some (.ref 0)::List.replicate 17 none) S1:=by
  simp_arith [e1]
 have y9:sIf (tOr (tNot (tTru (zAg zAk (zA0 (eVar 3) (zA0 (eVar 2) aNil))))) (tNot (tTru (zAg zB2 (zA0 (eVar 3) (zA0 (eVar 2) aNil)))))) (sRet (eC (.bl false))) zAv (lE (.klst (ns.map .int)) F K sl1 a4 a5 a6 (some (.int c.1)) (some (.int c.2)) (some (.int s.1)) (some (.int s.2)) (some (rowD (lng c s N))) a12 a13 a14 (List.replicate 4 none)) S6=.nx (lE (.klst (ns.map .int)) F K sl1 a4 a5 a6 (some (.int c.1)) (some (.int c.2)) (some (.int s.1)) (some (.int s.2)) (some (rowD (lng c s N))) a12 a13 a14 (List.replicate 4 none)) S6:=by
  refine zJe ?_ rfl
  simp_arith [tTru,ho,he,tru]
 refine zA6 y1 (zA6 (e:=(zE (.klst (ns.map .int)) F0 K0 sl0 (List.replicate 15 none))) (S1:=S2) (by simp_arith [e2]) (zA6 x3 (zA6 (e:=(zE (.klst (ns.map .int)) F K sl1 (List.replicate 15 none))) (S1:=S4) (by simp_arith [e4]) (zA6 x5 (zA6 x6 (zA6 x7 (zA6 x8 (zA6 y9 ?_))))))))
 have assoc:∀(a b d:SM) (env:Env) (S:Store) (e:Env) (S':Store) (q:SR),sSeq a b env S=.nx e S'->d e S'=q->sSeq a (sSeq b d) env S=q:=fun a b d env S e S' q h1 h2=>by
  unfold sSeq at h1 ⊢
  cases ha:a env S with
  | nx e1 S1=>
   rw[ha]at h1
   simp only at h1
   simp only[h1]
   exact h2
  | rt d S=>rw[ha]at h1;cases h1
  | bk e S=>rw[ha]at h1;cases h1
  | ct e S=>rw[ha]at h1;cases h1
  | ex x S=>rw[ha]at h1;cases h1
  | bad=>rw[ha]at h1;cases h1
 refine assoc _ _ _ _ _ _ _ _ x10 (zA6 x12 ?_)
 simp_arith [ho]
end
end DP
namespace Law
open PySem PySem.Spec PyProof.Rows L2
noncomputable abbrev n_0:List Str:=["plain","row","healing"]
noncomputable abbrev n_1:List Str:=["plain","paper","rows","slopes"]
noncomputable abbrev n_2:List Str:=["_law_script","_law_some","_law_number","_law_one"]
noncomputable abbrev n_3:List Str:=["_law_rows","_law_unlike","_law_found","_law_row"]
noncomputable abbrev n_4:List Str:=["_law_plain","_law_cells","_law_row","_law_found","_law_cell","_law_met"]
noncomputable abbrev n_5:List Str:=["_law_deal_here","_law_one","_law_other","_law_slopes","_law_sure","_law_rows","_law_k","_law_a","_law_b","_law_row","_law_turn","_law_far","_law_beside"]
noncomputable abbrev n_6:List Str:=["_law_plain","_law_paper","_law_word","_law_rows","_law_slopes","_law_row","_law_one","_law_falls"]
noncomputable abbrev n_7:List Str:=["_law_row","_law_a","_law_b"]
noncomputable abbrev n_8:List Str:=["_law_x","_law_y","_law_a","_law_b"]
noncomputable abbrev n_9:List Str:=["_law_deal_here","_law_paper","_law_word","_law_rows","_law_slopes","_law_form","_law_many","_law_k","_law_by","_law_row","_law_at"]
noncomputable abbrev n_10:List Str:=["_law_deal_here","_law_paper","_law_plain","_law_wide","_law_across","_law_up","_law_both","_law_rows"]
noncomputable abbrev n_11:List Str:=["_law_row","_law_across","_law_up"]
noncomputable abbrev n_12:List Str:=["_law_x","_law_y","_law_across","_law_up"]
noncomputable abbrev n_13:List Str:=["_law_script","_law_deal_here","_law_paper","_law_plain","_law_many","_law_left","_law_padded","_law_x","_law_y","_law_a","_law_b","_law_long","_law_far","_law_row","_law_some","_law_rules","_law_turn","_law_rule","_law_found"]
noncomputable abbrev n_14:List Str:=["_law_far","_law_x","_law_y","_law_a","_law_b"]
noncomputable abbrev n_15:List Str:=["_law_some","_law_k","_law_one"]
noncomputable abbrev n_16:List Str:=["_law_deal_here","_law_paper","_law_plain"]
noncomputable abbrev n_17:List Str:=["_law_deal_here","_law_many","_law_number","_law_one","_law_other"]
noncomputable def top (i:Nat):Stmt:=PySem.Challenge.pw_healfloor_k76_healing_papers_looked_at.main.body.getD i (.Pass ⟨0,0,0,0⟩)
structure Txt (K:PySem.W.Frag) (mg:Str->Option Value):Prop where
 b_all:mg "all"=none
 b_any:mg "any"=none
 b_bool:mg "bool"=none
 b_dict:mg "dict"=none
 b_enumerate:mg "enumerate"=none
 b_int:mg "int"=none
 b_isinstance:mg "isinstance"=none
 b_len:mg "len"=none
 b_list:mg "list"=none
 b_max:mg "max"=none
 b_min:mg "min"=none
 b_range:mg "range"=none
 b_reversed:mg "reversed"=none
 b_set:mg "set"=none
 b_sorted:mg "sorted"=none
 b_sum:mg "sum"=none
 b_tuple:mg "tuple"=none
 b_zip:mg "zip"=none
 c_HEALS:∃u,mg "HEALS"=some u/\RelV (.str (Str.ofString "heals")) u
 c_MOST_ROWS:∃u,mg "MOST_ROWS"=some u/\RelV (.int 8) u
section
variable (P:Program) (w:World) (K:PySem.W.Frag) (mg:Str->Option Value) (base:Heap)
noncomputable abbrev zR6:Prop:=Cal P w K mg base "worth" 1 ["slope","cell"] (spOf K XE0 DP.zG3)
noncomputable abbrev zGp:Prop:=Cal P w K mg base "lookup_of" 1 ["things"] (spOf K XE0 DP.zD9)
noncomputable abbrev zGq:Prop:=Cal P w K mg base "is_nought" 1 ["slopes"] (spOf K XE0 DP.zCj)
noncomputable abbrev zGr:Prop:=Cal P w K mg base "_law_deal" 1 ["_law_script"] (spOf K XE0 DP.zCk)
noncomputable abbrev zCn:Prop:=Cal P w K mg base "_law_draw" 1 ["_law_deal_here","_law_many"] (spOf K XE0 DP.zA7)
noncomputable abbrev zCv:Prop:=Cal P w K mg base "_law_least" 1 ["_law_rows"] (spOf K XE0 DP.zBb)
noncomputable abbrev zF7:Prop:=Cal P w K mg base "_law_heals" 1 ["_law_plain","_law_paper"] (spOf K XE0 DP.zB2)
noncomputable abbrev zDg:Prop:=Cal P w K mg base "_law_exchanged" 1 n_15 (spOf K XE0 DP.zAc)
noncomputable abbrev zF6:Prop:=Cal P w K mg base "is_healing" 2 ["plain","row"] (spOf K XE0 DP.zBu)
noncomputable abbrev zK2:Prop:=Cal P w K mg base "fall_of" 2 ["row","slope"] (spOf K XE0 DP.zDm)
noncomputable abbrev zE7:Prop:=Cal P w K mg base "_law_healing" 2 ["_law_plain"] (spOf K XE0 DP.zC5)
noncomputable abbrev zEn:Prop:=Cal P w K mg base "_law_spoilt" 2 ["_law_deal_here","_law_paper"] (spOf K XE0 DP.zBe)
noncomputable abbrev zCo:Prop:=Cal P w K mg base "_law_carried_both" 2 n_16 (spOf K XE0 DP.zBf)
noncomputable abbrev zHi:Prop:=Cal P w K mg base "falls_of" 3 ["paper"] (spOf K XE0 DP.zD2)
noncomputable abbrev zE8:Prop:=Cal P w K mg base "_law_falling" 3 ["_law_deal_here"] (spOf K XE0 DP.zC6)
noncomputable abbrev zDp:Prop:=Cal P w K mg base "healing_holds" 4 ["plain","paper"] (spOf K XE0 DP.zAk)
end
section
variable {P:Program}{w:World}{K:PySem.W.Frag}{mg:Str->Option Value}{base:Heap}
noncomputable abbrev zHu:Stmt:=top 1
theorem sc_worth:zB6 ["slope","cell"] ["slope","cell"] (zA8 zHu):=⟨rfl,rfl,rfl,by decide +kernel,rfl,by decide +kernel,by decide +kernel⟩
theorem zSc {f:Addr}{fd:FuncData}(F:Fun K "worth" "worth" zHu f fd) (T:Txt K mg):FnOk P w K mg base CX0 1 f fd ["slope","cell"] (spOf K XE0 DP.zG3):=by
 refine fn_d (k:=0) (b:=DP.zL2) F sc_worth rfl rfl fun cdv A outer s H E hr=>?_
 have hu:=zDl hr
 have hu64:=hr.units
 have hu1:=hr.units0
 have nd:=sc_worth.nd
 exact(zAb (zAr (zAf zBy (zAf zBo (zAl (ix_D hu) (zA2 0) zA3) (zAl (ix_D hu) (zA2 1) zA3)) (zAf zBo (zAl (ix_D hu) (zA2 0) zA3) (zAl (ix_D hu) (zA2 1) zA3)))))
noncomputable abbrev zCf:Stmt:=top 2
theorem sc_lookup_of:zB6 ["things"] ["things"] (zA8 zCf):=⟨rfl,rfl,rfl,by decide +kernel,rfl,by decide +kernel,by decide +kernel⟩
theorem zJ2 {f:Addr}{fd:FuncData}(F:Fun K "lookup_of" "lookup_of" zCf f fd) (T:Txt K mg):FnOk P w K mg base CX0 1 f fd ["things"] (spOf K XE0 DP.zD9):=by
 refine fn_d (k:=0) (b:=DP.zGj) F sc_lookup_of rfl rfl fun cdv A outer s H E hr=>?_
 have hu:=zDl hr
 have hu64:=hr.units
 have hu1:=hr.units0
 have nd:=sc_lookup_of.nd
 exact(zAb (zAr (zBk (yBn (zNm hu64 rfl) rfl T.b_dict PyProof.Rows.boot_dict (zA1 (zBk (zB0 rfl (CompScope.mk' (sc:=zA8 zCf) (N:=["things"]) (own:=["thing"]) (fre:=[]) (ix:=[]) rfl rfl (by decide +kernel)) (zAx (zA2 0)) (fun cl C s0 H0 fp=>(zA9 (j:=0) (show List.Nodup (["thing"]:List Str) by decide +kernel) rfl (Or.inl rfl) (Or.inr rfl))) (fun cl C s0 H0 fp=>zAz) (fun cl C s0 H0 fp=>(zAn (zA1 (zA2 0) (zA1 zGb zA4)))))) zA4)))))
noncomputable abbrev zC2:Stmt:=top 11
theorem sc_is_nought:zB6 ["slopes"] ["slopes"] (zA8 zC2):=⟨rfl,rfl,rfl,by decide +kernel,rfl,by decide +kernel,by decide +kernel⟩
theorem zJ3 {f:Addr}{fd:FuncData}(F:Fun K "is_nought" "is_nought" zC2 f fd) (T:Txt K mg):FnOk P w K mg base CX0 1 f fd ["slopes"] (spOf K XE0 DP.zCj):=by
 refine fn_d (k:=0) (b:=DP.zGk) F sc_is_nought rfl rfl fun cdv A outer s H E hr=>?_
 have hu:=zDl hr
 have hu64:=hr.units
 have hu1:=hr.units0
 have nd:=sc_is_nought.nd
 exact(zAb (zAr (zQa (zDd zD0 (zBl (zD3 rfl) rfl T.b_sum yf (zA1 (zBk (zB0 rfl (CompScope.mk' (sc:=zA8 zC2) (N:=["slopes"]) (own:=["slope"]) (fre:=[]) (ix:=[]) rfl rfl (by decide +kernel)) (zAx (zA2 0)) (fun cl C s0 H0 fp=>(zA9 (j:=0) (show List.Nodup (["slope"]:List Str) by decide +kernel) rfl (Or.inl rfl) (Or.inr rfl))) (fun cl C s0 H0 fp=>zAz) (fun cl C s0 H0 fp=>(zAl (ix_D hu) (zA2 0) zA3)))) zA4)) zA3 (nomark _)) (zQ9 (zDd zD0 (zBl (zD3 rfl) rfl T.b_sum yf (zA1 (zBk (zB0 rfl (CompScope.mk' (sc:=zA8 zC2) (N:=["slopes"]) (own:=["slope"]) (fre:=[]) (ix:=[]) rfl rfl (by decide +kernel)) (zAx (zA2 0)) (fun cl C s0 H0 fp=>(zA9 (j:=0) (show List.Nodup (["slope"]:List Str) by decide +kernel) rfl (Or.inl rfl) (Or.inr rfl))) (fun cl C s0 H0 fp=>zAz) (fun cl C s0 H0 fp=>(zAl (ix_D hu) (zA2 0) zA3)))) zA4)) zA3 (nomark _))))))
noncomputable abbrev zC3:Stmt:=top 14
theorem sc__law_deal:zB6 n_2 ["_law_script"] (zA8 zC3):=⟨rfl,rfl,rfl,by decide +kernel,rfl,by decide +kernel,by decide +kernel⟩
theorem zJ5 {f:Addr}{fd:FuncData}(F:Fun K "_law_deal" "_law_deal" zC3 f fd) (T:Txt K mg):FnOk P w K mg base CX0 1 f fd ["_law_script"] (spOf K XE0 DP.zCk):=by
 refine fn_r (k:=0) (b:=DP.zGm) F sc__law_deal rfl rfl fun cdv A outer s H E hr=>?_
 have hu:=zDl hr
 have hu64:=hr.units
 have hu1:=hr.units0
 have nd:=sc__law_deal.nd
 exact(zA5 (zFi (j:=1) nd rfl (by trivial) rfl (CompScope.mk' (sc:=zA8 zC3) (N:=n_2) (own:=["_law_one"]) (fre:=[]) (ix:=[]) rfl rfl (by decide +kernel)) (zAx (zDn sl_D (zA2 0) zEb (zBz zA3))) (fun cl C s0 H0 fp=>(zA9 (j:=0) (show List.Nodup (["_law_one"]:List Str) by decide +kernel) rfl (Or.inl rfl) (Or.inr rfl))) (fun cl C s0 H0 fp=>zAz) (fun cl C s0 H0 fp=>(zBl (zNl rfl) rfl T.b_max PyProof.Rows.boot_max (zA1 (zA2 0) (zA1 (zAf zBa zA3 (zA2 0)) zA4)))))
   (zA5 (zAj (j:=2) nd rfl (by trivial) zA3)
   (zA5 (zC4 vz rfl (zAx (zA2 1)) (zA9 (j:=3) nd rfl (by trivial)) (zAb (zAj (j:=2) nd rfl (by trivial) (zAf zD7 (zAf zBy (zAf zBo (zA2 2) zA3) (zAf zD7 (zA2 3) zA3)) zA3))))
   (zAb (zAr (zX3 (zIf (zA2 2) (zIf zA3 (zIf (zG9 (zNe rfl (zBk (zB0 rfl (CompScope.mk' (sc:=zA8 zC3) (N:=n_2) (own:=["_law_one"]) (fre:=[]) (ix:=[]) rfl rfl (by decide +kernel)) (zAx (zA2 1)) (fun cl C s0 H0 fp=>(zA9 (j:=0) (show List.Nodup (["_law_one"]:List Str) by decide +kernel) rfl (Or.inl rfl) (Or.inr rfl))) (fun cl C s0 H0 fp=>(zIg (zB3 zTy (zA2 0) (zAf zVx zA3 zA3) (nomark _)))) (fun cl C s0 H0 fp=>(zA2 0)))) rfl T.b_list rfl T.b_reversed)) zX0))) rfl (by decide +kernel)))))))
noncomputable abbrev zD6:Stmt:=top 15
theorem sc__law_draw:zB6 n_17 ["_law_deal_here","_law_many"] (zA8 zD6):=⟨rfl,rfl,rfl,by decide +kernel,rfl,by decide +kernel,by decide +kernel⟩
theorem zJ4 {f:Addr}{fd:FuncData}(F:Fun K "_law_draw" "_law_draw" zD6 f fd) (T:Txt K mg):FnOk P w K mg base CX0 1 f fd ["_law_deal_here","_law_many"] (spOf K XE0 DP.zA7):=by
 refine fn_d (k:=0) (b:=DP.zGl) F sc__law_draw rfl rfl fun cdv A outer s H E hr=>?_
 have hu:=zDl hr
 have hu64:=hr.units
 have hu1:=hr.units0
 have nd:=sc__law_draw.nd
 exact(zA5 (zQ4 vz (dt_w (zU7 (zB3 zD0 (zAl (ix_D hu) (zA2 0) zCl) zA3 (nomark _)) (zQ2 (zB3 zEe (zBl zAo rfl T.b_len xY (zA1 (zAl (ix_D hu) (zA2 0) zCl) zA4)) zA3 (nomark _))))) (zAb (zKv zUw (zA2 0) zCl (zZx uS PySem.F.slot_list_pop PySem.F.type_list_pop zW4 (.inr (.inl rfl)) (zAl (ix_D hu) (zA2 0) zCl)))))
   (zA5 (zAj (j:=2) nd rfl (by trivial) (zAl (ix_D hu) (zA2 0) zCl))
   (zA5 (zBc (zB3 zEe (zA2 2) zA3 (nomark _)) (zA5 (zKv zUw (zA2 0) zCl (zAf zSa (zA2 2) (zA2 1)))
   (zAb (zAr (zAf zD7 (zA2 2) (zA2 1))))) zAw)
   (zA5 (zAj (j:=3) nd rfl (by trivial) (zAf zD7 (zAf zBy (zAf zBo (zAl (ix_D hu) (zA2 0) zCl) zA3) zA3) zA3))
   (zA5 (zKv zUw (zA2 0) zCl (zAf zD7 (zAf zBy (zAf zBo (zA2 3) zA3) zA3) zA3))
   (zA5 (zAj (j:=4) nd rfl (by trivial) (zAf zD7 (zAf zBo (zAl (ix_D hu) (zA2 0) zCl) (zAl (ix_D hu) (zA2 0) zCl)) zA3))
   (zAb (zAr (zAf zD7 (zAf zBy (zAf zBo (zAf zD7 (zAf zBo (zA2 3) (zA2 3)) zA3) zA3) (zA2 4)) (zA2 1))))))))))
noncomputable abbrev zBn:Stmt:=top 16
theorem sc__law_least:zB6 n_3 ["_law_rows"] (zA8 zBn):=⟨rfl,rfl,rfl,by decide +kernel,rfl,by decide +kernel,by decide +kernel⟩
theorem zHz {f:Addr}{fd:FuncData}(F:Fun K "_law_least" "_law_least" zBn f fd) (T:Txt K mg):FnOk P w K mg base CX0 1 f fd ["_law_rows"] (spOf K XE0 DP.zBb):=by
 refine fn_d (k:=0) (b:=DP.zF4) F sc__law_least rfl rfl fun cdv A outer s H E hr=>?_
 have hu:=zDl hr
 have hu64:=hr.units
 have hu1:=hr.units0
 have nd:=sc__law_least.nd
 exact(zA5 (zAj (j:=1) nd rfl (by trivial) (zBk (zUb rfl hu64 (zBk (zB0 rfl (CompScope.mk' (sc:=zA8 zBn) (N:=n_3) (own:=["_law_row"]) (fre:=[]) (ix:=[]) rfl rfl (by decide +kernel)) (zAx (zA2 0)) (fun cl C s0 H0 fp=>(zA9 (j:=0) (show List.Nodup (["_law_row"]:List Str) by decide +kernel) rfl (Or.inl rfl) (Or.inr rfl))) (fun cl C s0 H0 fp=>zAz) (fun cl C s0 H0 fp=>(zGa zB8 rfl T.b_tuple ue (zA1 (zBk (yBo (zIj hu64) rfl T.b_sorted PyProof.Rows.boot_sorted (zA1 (zA2 0) zA4))) zA4))))) rfl T.b_sorted rfl T.b_set)))
   (zA5 (zAj (j:=2) nd rfl (by trivial) (zG9 (zCt zA4)))
   (zA5 (zC4 vz rfl (zAx (zA2 1)) (zA9 (j:=3) nd rfl (by trivial)) (zAb (zBc (zG7 (zG6 (zBl (zDy rfl) rfl T.b_any yN (zA1 (zBk (zB0 rfl (CompScope.mk' (sc:=zA8 zBn) (N:=n_3) (own:=["_law_other"]) (fre:=["_law_row"]) (ix:=[3]) rfl rfl (by decide +kernel)) (zAx (zA2 1)) (fun cl C s0 H0 fp=>(zA9 (j:=0) (show List.Nodup (["_law_other","_law_row"]:List Str) by decide +kernel) rfl (Or.inl rfl) (Or.inr rfl))) (fun cl C s0 H0 fp=>zAz) (fun cl C s0 H0 fp=>(zQa (zDd (zDj hu64) (zA2 0) (zA2 1) (nomark _)) (zQ9 (zBl (zDz rfl) rfl T.b_all yO (zA1 (zBk (zB0 rfl (CompScope.mk' (sc:=(zCp _ (zA8 zBn))) (N:=["_law_other","_law_row"]) (own:=["_law_cell"]) (fre:=["_law_row"]) (ix:=[1]) rfl rfl (by decide +kernel)) (zAx (zA2 0)) (fun cl C s0 H0 fp=>(zA9 (j:=0) (show List.Nodup (["_law_cell","_law_row"]:List Str) by decide +kernel) rfl (Or.inl rfl) (Or.inr rfl))) (fun cl C s0 H0 fp=>zAz) (fun cl C s0 H0 fp=>(zDd (zLp hu64) (zA2 0) (zA2 1) (by with_unfolding_all rfl))))) zA4))))))) zA4)))) (zAb (zDx (zNf uS yB yC zD1 (.inr (.inl rfl)) (zA2 2) (zA1 (zA2 3) zA4)))) zAw)))
   (zAb (zAr (zGa zB8 rfl T.b_tuple ue (zA1 (zA2 2) zA4)))))))
noncomputable abbrev zB7:Stmt:=top 19
theorem sc__law_heals:zB6 n_6 ["_law_plain","_law_paper"] (zA8 zB7):=⟨rfl,rfl,rfl,by decide +kernel,rfl,by decide +kernel,by decide +kernel⟩
theorem zI0 {f:Addr}{fd:FuncData}(F:Fun K "_law_heals" "_law_heals" zB7 f fd) (T:Txt K mg):FnOk P w K mg base CX0 1 f fd ["_law_plain","_law_paper"] (spOf K XE0 DP.zB2):=by
 refine fn_d (k:=0) (b:=DP.zF5) F sc__law_heals rfl rfl fun cdv A outer s H E hr=>?_
 have hu:=zDl hr
 have hu64:=hr.units
 have hu1:=hr.units0
 have nd:=sc__law_heals.nd
 exact(zA5 (zG8 (zA2 1) (zC0 rfl (zAd (zA9 (j:=2) nd rfl (by trivial)) (zAd (zA9 (j:=3) nd rfl (by trivial)) (zAd (zA9 (j:=4) nd rfl (by trivial)) zBg)))))
   (zA5 (zBc (dt_w (zKu (zB3 (zDj hu64) (zBl zAo rfl T.b_len xY (zA1 (zA2 3) zA4)) (zBl zAo rfl T.b_len xY (zA1 (zA2 4) zA4)) (nomark _)) (zKu (zB3 zLo (zBl zAo rfl T.b_len xY (zA1 (zA2 3) zA4)) zA3 (nomark _)) (zHc (zB3 zEe (zBl zAo rfl T.b_len xY (zA1 (zA2 3) zA4)) zA3 (nomark _)))))) (zAb (zAr zGb)) zAw)
   (zA5 (zC4 vz rfl (zAx (zA2 3)) (zA9 (j:=5) nd rfl (by trivial)) (zAb (zC4 vz rfl (zAx (zA2 0)) (zA9 (j:=6) nd rfl (by trivial)) (zAb (zBc (zG7 (zG6 (zBl (zDy rfl) rfl T.b_any yN (zA1 (zBk (zB0 rfl (CompScope.mk' (sc:=zA8 zB7) (N:=n_6) (own:=["_law_cell"]) (fre:=["_law_one"]) (ix:=[6]) rfl rfl (by decide +kernel)) (zAx (zA2 5)) (fun cl C s0 H0 fp=>(zA9 (j:=0) (show List.Nodup (["_law_cell","_law_one"]:List Str) by decide +kernel) rfl (Or.inl rfl) (Or.inr rfl))) (fun cl C s0 H0 fp=>zAz) (fun cl C s0 H0 fp=>(zDd (zLp hu64) (zA2 0) (zA2 1) (by with_unfolding_all rfl))))) zA4)))) (zAb (zAr zGb)) zAw)))))
   (zA5 (zBc (dt_w (zKu (zB3 (zDj hu64) (zBl (zD3 rfl) rfl T.b_sum yf (zA1 (zBk (zB0 rfl (CompScope.mk' (sc:=zA8 zB7) (N:=n_6) (own:=["_law_a","_law_b"]) (fre:=[]) (ix:=[]) rfl rfl (by decide +kernel)) (zAx (zA2 4)) (fun cl C s0 H0 fp=>(zC0 rfl (zAd (zA9 (j:=0) (show List.Nodup (["_law_a","_law_b"]:List Str) by decide +kernel) rfl (Or.inl rfl) (Or.inr rfl)) (zAd (zA9 (j:=1) (show List.Nodup (["_law_a","_law_b"]:List Str) by decide +kernel) rfl (Or.inl rfl) (Or.inr rfl)) zBg)))) (fun cl C s0 H0 fp=>zAz) (fun cl C s0 H0 fp=>(zA2 0)))) zA4)) zA3 (nomark _)) (zHc (zB3 (zDj hu64) (zBl (zD3 rfl) rfl T.b_sum yf (zA1 (zBk (zB0 rfl (CompScope.mk' (sc:=zA8 zB7) (N:=n_6) (own:=["_law_a","_law_b"]) (fre:=[]) (ix:=[]) rfl rfl (by decide +kernel)) (zAx (zA2 4)) (fun cl C s0 H0 fp=>(zC0 rfl (zAd (zA9 (j:=0) (show List.Nodup (["_law_a","_law_b"]:List Str) by decide +kernel) rfl (Or.inl rfl) (Or.inr rfl)) (zAd (zA9 (j:=1) (show List.Nodup (["_law_a","_law_b"]:List Str) by decide +kernel) rfl (Or.inl rfl) (Or.inr rfl)) zBg)))) (fun cl C s0 H0 fp=>zAz) (fun cl C s0 H0 fp=>(zA2 1)))) zA4)) zA3 (nomark _))))) (zAb (zAr zGb)) zAw)
   (zA5 (zFi (j:=7) nd rfl (by trivial) rfl (CompScope.mk' (sc:=zA8 zB7) (N:=n_6) (own:=n_7) (fre:=[]) (ix:=[]) rfl rfl (by decide +kernel)) (zUa true true rfl T.b_zip (zA1 (zA2 3) (zA1 (zA2 4) zA4))) (fun cl C s0 H0 fp=>(zC0 rfl (zAd (zA9 (j:=0) (show List.Nodup n_7 by decide +kernel) rfl (Or.inl rfl) (Or.inr rfl)) (zAd (zC0 rfl (zAd (zA9 (j:=1) (show List.Nodup n_7 by decide +kernel) rfl (Or.inr rfl) (Or.inl rfl)) (zAd (zA9 (j:=2) (show List.Nodup n_7 by decide +kernel) rfl (Or.inr rfl) (Or.inl rfl)) zBg))) zBg)))) (fun cl C s0 H0 fp=>zAz) (fun cl C s0 H0 fp=>(zBl (zJo rfl) rfl T.b_min PyProof.Rows.boot_min (zA1 (zBk (zB0 rfl (CompScope.mk' (sc:=(zCp _ (zA8 zB7))) (N:=n_7) (own:=["_law_x","_law_y"]) (fre:=["_law_a","_law_b"]) (ix:=[1,2]) rfl rfl (by decide +kernel)) (zAx (zA2 0)) (fun cl C s0 H0 fp=>(zC0 rfl (zAd (zA9 (j:=0) (show List.Nodup n_8 by decide +kernel) rfl (Or.inl rfl) (Or.inr rfl)) (zAd (zA9 (j:=1) (show List.Nodup n_8 by decide +kernel) rfl (Or.inl rfl) (Or.inr rfl)) zBg)))) (fun cl C s0 H0 fp=>zAz) (fun cl C s0 H0 fp=>(zAf zBy (zAf zBo (zA2 2) (zA2 0)) (zAf zBo (zA2 3) (zA2 1)))))) zA4))))
   (zAb (zAr (zDd zEe (zBl (zD3 rfl) rfl T.b_sum yf (zA1 (zA2 7) zA4)) zA3 (nomark _)))))))))
noncomputable abbrev zBr:Stmt:=top 20
theorem sc__law_exchanged:zB6 n_15 n_15 (zA8 zBr):=⟨rfl,rfl,rfl,by decide +kernel,rfl,by decide +kernel,by decide +kernel⟩
theorem zEr {f:Addr}{fd:FuncData}(F:Fun K "_law_exchanged" "_law_exchanged" zBr f fd) (T:Txt K mg):FnOk P w K mg base CX0 1 f fd n_15 (spOf K XE0 DP.zAc):=by
 refine fn_d (k:=0) (b:=DP.zDe) F sc__law_exchanged rfl rfl fun cdv A outer s H E hr=>?_
 have hu:=zDl hr
 have hu64:=hr.units
 have hu1:=hr.units0
 have nd:=sc__law_exchanged.nd
 exact(zAb (zAr (zAf zAp (zAf zAp (zDn sl_D (zA2 0) zEb (zBz (zA2 1))) (zAn (zA1 (zA2 2) zA4))) (zDn sl_D (zA2 0) (zBz (zAf zAp (zA2 1) zA3)) zEb))))
noncomputable abbrev zBt:Stmt:=top 4
theorem sc_is_healing:zB6 n_0 ["plain","row"] (zA8 zBt):=⟨rfl,rfl,rfl,by decide +kernel,rfl,by decide +kernel,by decide +kernel⟩
theorem zHy {f:Addr}{fd:FuncData}(F:Fun K "is_healing" "is_healing" zBt f fd) (T:Txt K mg) (C_lookup_of:zGp P w K mg base):FnOk P w K mg base CX0 2 f fd ["plain","row"] (spOf K XE0 DP.zBu):=by
 refine fn_d (k:=1) (b:=DP.zF3) F sc_is_healing rfl rfl fun cdv A outer s H E hr=>?_
 have hu:=zDl hr
 have hu64:=hr.units
 have hu1:=hr.units0
 have nd:=sc_is_healing.nd
 exact(zA5 (zAj (j:=2) nd rfl (by trivial) (zAe C_lookup_of (hr.mono (by decide)) rfl (zA1 (zA2 1) zA4)))
   (zAb (zAr (zBl (zDz rfl) rfl T.b_all yO (zA1 (zBk (zB0 rfl (CompScope.mk' (sc:=zA8 zBt) (N:=n_0) (own:=["breaking"]) (fre:=["healing"]) (ix:=[2]) rfl rfl (by decide +kernel)) (zAx (zA2 0)) (fun cl C s0 H0 fp=>(zA9 (j:=0) (show List.Nodup (["breaking","healing"]:List Str) by decide +kernel) rfl (Or.inl rfl) (Or.inr rfl))) (fun cl C s0 H0 fp=>zAz) (fun cl C s0 H0 fp=>(zBl (zDy rfl) rfl T.b_any yN (zA1 (zBk (zB0 rfl (CompScope.mk' (sc:=(zCp _ (zA8 zBt))) (N:=["breaking","healing"]) (own:=["cell"]) (fre:=["healing"]) (ix:=[1]) rfl rfl (by decide +kernel)) (zAx (zA2 0)) (fun cl C s0 H0 fp=>(zA9 (j:=0) (show List.Nodup (["cell","healing"]:List Str) by decide +kernel) rfl (Or.inl rfl) (Or.inr rfl))) (fun cl C s0 H0 fp=>zAz) (fun cl C s0 H0 fp=>(zDd (zLp hu64) (zA2 0) (zA2 1) (by with_unfolding_all rfl))))) zA4))))) zA4)))))
noncomputable abbrev zDi:Stmt:=top 6
theorem sc_fall_of:zB6 ["row","slope"] ["row","slope"] (zA8 zDi):=⟨rfl,rfl,rfl,by decide +kernel,rfl,by decide +kernel,by decide +kernel⟩
theorem zMv {f:Addr}{fd:FuncData}(F:Fun K "fall_of" "fall_of" zDi f fd) (T:Txt K mg) (C_worth:zR6 P w K mg base):FnOk P w K mg base CX0 2 f fd ["row","slope"] (spOf K XE0 DP.zDm):=by
 refine fn_d (k:=1) (b:=DP.zJz) F sc_fall_of rfl rfl fun cdv A outer s H E hr=>?_
 have hu:=zDl hr
 have hu64:=hr.units
 have hu1:=hr.units0
 have nd:=sc_fall_of.nd
 exact(zAb (zAr (zBl (zJo rfl) rfl T.b_min PyProof.Rows.boot_min (zA1 (zBk (zB0 rfl (CompScope.mk' (sc:=zA8 zDi) (N:=["row","slope"]) (own:=["cell"]) (fre:=["slope"]) (ix:=[1]) rfl rfl (by decide +kernel)) (zAx (zA2 0)) (fun cl C s0 H0 fp=>(zA9 (j:=0) (show List.Nodup (["cell","slope"]:List Str) by decide +kernel) rfl (Or.inl rfl) (Or.inr rfl))) (fun cl C s0 H0 fp=>zAz) (fun cl C s0 H0 fp=>(zAe C_worth (hr.mono (by decide)) rfl (zA1 (zA2 1) (zA1 (zA2 0) zA4)))))) zA4))))
noncomputable abbrev zAu:Stmt:=top 17
theorem sc__law_healing:zB6 n_4 ["_law_plain"] (zA8 zAu):=⟨rfl,rfl,rfl,by decide +kernel,rfl,by decide +kernel,by decide +kernel⟩
theorem zFr {f:Addr}{fd:FuncData}(F:Fun K "_law_healing" "_law_healing" zAu f fd) (T:Txt K mg) (C__law_least:zCv P w K mg base):FnOk P w K mg base CX0 2 f fd ["_law_plain"] (spOf K XE0 DP.zC5):=by
 refine fn_d (k:=1) (b:=DP.zE6) F sc__law_healing rfl rfl fun cdv A outer s H E hr=>?_
 have hu:=zDl hr
 have hu64:=hr.units
 have hu1:=hr.units0
 have nd:=sc__law_healing.nd
 exact(zA5 (zAj (j:=1) nd rfl (by trivial) (zG9 (zCt zA4)))
   (zA5 (zC4 vz rfl (zAx (zA2 0)) (zA9 (j:=2) nd rfl (by trivial)) (zAb (zDx (zNf uS PySem.F.slot_list_extend PySem.F.type_list_extend zMx (.inr (.inl rfl)) (zA2 1) (zA1 (zBk (zB0 rfl (CompScope.mk' (sc:=zA8 zAu) (N:=n_4) (own:=["_law_cell"]) (fre:=["_law_cells"]) (ix:=[1]) rfl rfl (by decide +kernel)) (zAx (zA2 2)) (fun cl C s0 H0 fp=>(zA9 (j:=0) (show List.Nodup (["_law_cell","_law_cells"]:List Str) by decide +kernel) rfl (Or.inl rfl) (Or.inr rfl))) (fun cl C s0 H0 fp=>(zIg (zB3 (zP3 hu64) (zA2 0) (zA2 1) (by with_unfolding_all rfl)))) (fun cl C s0 H0 fp=>(zA2 0)))) zA4)))))
   (zA5 (zAj (j:=3) nd rfl (by trivial) (zBk (zCt (zA1 (zAn zA4) zA4))))
   (zA5 (zC4 vz rfl (zAx (zA2 1)) (zA9 (j:=4) nd rfl (by trivial)) (zAb (zAj (j:=3) nd rfl (by trivial) (zAf zAp (zA2 3) (zBk (zB0 rfl (CompScope.mk' (sc:=zA8 zAu) (N:=n_4) (own:=["_law_row"]) (fre:=["_law_cell"]) (ix:=[4]) rfl rfl (by decide +kernel)) (zAx (zA2 3)) (fun cl C s0 H0 fp=>(zA9 (j:=0) (show List.Nodup (["_law_row","_law_cell"]:List Str) by decide +kernel) rfl (Or.inl rfl) (Or.inr rfl))) (fun cl C s0 H0 fp=>zAz) (fun cl C s0 H0 fp=>(zAf zAp (zA2 0) (zAn (zA1 (zA2 1) zA4))))))))))
   (zA5 (zFi (j:=5) nd rfl (by trivial) rfl (CompScope.mk' (sc:=zA8 zAu) (N:=n_4) (own:=["_law_one"]) (fre:=["_law_plain"]) (ix:=[0]) rfl rfl (by decide +kernel)) (zAx (zA2 3)) (fun cl C s0 H0 fp=>(zA9 (j:=0) (show List.Nodup (["_law_one","_law_plain"]:List Str) by decide +kernel) rfl (Or.inr rfl) (Or.inl rfl))) (fun cl C s0 H0 fp=>(zIg (zG6 (zBl (zDz rfl) rfl T.b_all yO (zA1 (zBk (zB0 rfl (CompScope.mk' (sc:=(zCp _ (zA8 zAu))) (N:=["_law_one","_law_plain"]) (own:=["_law_row"]) (fre:=["_law_one"]) (ix:=[0]) rfl rfl (by decide +kernel)) (zAx (zA2 1)) (fun cl C s0 H0 fp=>(zA9 (j:=0) (show List.Nodup (["_law_row","_law_one"]:List Str) by decide +kernel) rfl (Or.inr rfl) (Or.inl rfl))) (fun cl C s0 H0 fp=>zAz) (fun cl C s0 H0 fp=>(zBl (zDy rfl) rfl T.b_any yN (zA1 (zBk (zB0 rfl (CompScope.mk' (sc:=(zCp _ ((zCp _ (zA8 zAu))))) (N:=["_law_row","_law_one"]) (own:=["_law_cell"]) (fre:=["_law_row"]) (ix:=[0]) rfl rfl (by decide +kernel)) (zAx (zA2 1)) (fun cl C s0 H0 fp=>(zA9 (j:=0) (show List.Nodup (["_law_cell","_law_row"]:List Str) by decide +kernel) rfl (Or.inl rfl) (Or.inr rfl))) (fun cl C s0 H0 fp=>zAz) (fun cl C s0 H0 fp=>(zDd (zLp hu64) (zA2 0) (zA2 1) (by with_unfolding_all rfl))))) zA4))))) zA4))))) (fun cl C s0 H0 fp=>(zA2 0)))
   (zAb (zAr (zAe C__law_least (hr.mono (by decide)) rfl (zA1 (zA2 5) zA4)))))))))
noncomputable abbrev zBx:Stmt:=top 21
theorem sc__law_spoilt:zB6 n_9 ["_law_deal_here","_law_paper"] (zA8 zBx):=⟨rfl,rfl,rfl,by decide +kernel,rfl,by decide +kernel,by decide +kernel⟩
theorem zGu {f:Addr}{fd:FuncData}(F:Fun K "_law_spoilt" "_law_spoilt" zBx f fd) (T:Txt K mg) (C__law_draw:zCn P w K mg base) (C__law_exchanged:zDg P w K mg base):FnOk P w K mg base CX0 2 f fd ["_law_deal_here","_law_paper"] (spOf K XE0 DP.zBe):=by
 refine fn_d (k:=1) (b:=DP.zEl) F sc__law_spoilt rfl rfl fun cdv A outer s H E hr=>?_
 have hu:=zDl hr
 have hu64:=hr.units
 have hu1:=hr.units0
 have nd:=sc__law_spoilt.nd
 exact(zA5 (zG8 (zA2 1) (zC0 rfl (zAd (zA9 (j:=2) nd rfl (by trivial)) (zAd (zA9 (j:=3) nd rfl (by trivial)) (zAd (zA9 (j:=4) nd rfl (by trivial)) zBg)))))
   (zA5 (zFj (i:=5) (j:=6) rfl nd rfl rfl (by decide) rfl rfl (zA1 (zAe C__law_draw (hr.mono (by decide)) rfl (zA1 (zA2 0) (zA1 zA3 zA4))) (zA1 (zBl (zNk rfl) rfl T.b_min PyProof.Rows.boot_min (zA1 (zBl zAo rfl T.b_len xY (zA1 (zA2 3) zA4)) (zA1 (zBl zAo rfl T.b_len xY (zA1 (zA2 4) zA4)) zA4))) zA4)) rfl)
   (zA5 (zAj (j:=7) nd rfl (by trivial) (zAe C__law_draw (hr.mono (by decide)) rfl (zA1 (zA2 0) (zA1 (zA2 6) zA4))))
   (zA5 (zAj (j:=8) nd rfl (by trivial) (zAl (ix_D hu) (zBk (zCt (zA1 (zAn (zA1 zA3 (zA1 zA3 zA4))) (zA1 (zAn (zA1 (zQ7 zFl zA3) (zA1 zA3 zA4))) (zA1 (zAn (zA1 zA3 (zA1 zA3 zA4))) (zA1 (zAn (zA1 zA3 (zA1 (zQ7 zFl zA3) zA4))) zA4)))))) (zAe C__law_draw (hr.mono (by decide)) rfl (zA1 (zA2 0) (zA1 zA3 zA4)))))
   (zA5 (zBc (zB3 zLo (zA2 5) zA3 (nomark _)) (zA5 (zAj (j:=4) nd rfl (by trivial) (zAe C__law_exchanged (hr.mono (by decide)) rfl (zA1 (zA2 4) (zA1 (zA2 7) (zA1 (zAn (zA1 (zAf zAp (zAl (ix_D hu) (zAl (ix_D hu) (zA2 4) (zA2 7)) zA3) (zAl (ix_D hu) (zA2 8) zA3)) (zA1 (zAf zAp (zAl (ix_D hu) (zAl (ix_D hu) (zA2 4) (zA2 7)) zA3) (zAl (ix_D hu) (zA2 8) zA3)) zA4))) zA4)))))
   (zAb (zBc (zB3 zD0 (zA2 5) zA3 (nomark _)) (zA5 (zAj (j:=7) nd rfl (by trivial) (zAf zD7 (zAf zAp (zA2 7) zA3) (zA2 6)))
   (zAb (zAj (j:=4) nd rfl (by trivial) (zAe C__law_exchanged (hr.mono (by decide)) rfl (zA1 (zA2 4) (zA1 (zA2 7) (zA1 (zAn (zA1 (zAf zBa (zAl (ix_D hu) (zAl (ix_D hu) (zA2 4) (zA2 7)) zA3) (zAl (ix_D hu) (zA2 8) zA3)) (zA1 (zAf zBa (zAl (ix_D hu) (zAl (ix_D hu) (zA2 4) (zA2 7)) zA3) (zAl (ix_D hu) (zA2 8) zA3)) zA4))) zA4))))))) zAw))) zAw)
   (zA5 (zBc (zB3 zD0 (zA2 5) zA3 (nomark _)) (zA5 (zFj (i:=9) (j:=10) rfl nd rfl rfl (by decide) rfl rfl (zA1 (zAl (ix_D hu) (zA2 3) (zA2 7)) (zA1 (zAe C__law_draw (hr.mono (by decide)) rfl (zA1 (zA2 0) (zA1 (zBl zAo rfl T.b_len xY (zA1 (zAl (ix_D hu) (zA2 3) (zA2 7)) zA4)) zA4))) zA4)) rfl)
   (zAb (zAj (j:=3) nd rfl (by trivial) (zAe C__law_exchanged (hr.mono (by decide)) rfl (zA1 (zA2 3) (zA1 (zA2 7) (zA1 (zAe C__law_exchanged (hr.mono (by decide)) rfl (zA1 (zA2 9) (zA1 (zA2 10) (zA1 (zAn (zA1 (zAf zAp (zAl (ix_D hu) (zAl (ix_D hu) (zA2 9) (zA2 10)) zA3) (zAl (ix_D hu) (zA2 8) zA3)) (zA1 (zAf zAp (zAl (ix_D hu) (zAl (ix_D hu) (zA2 9) (zA2 10)) zA3) (zAl (ix_D hu) (zA2 8) zA3)) zA4))) zA4)))) zA4))))))) zAw)
   (zA5 (zBc (zB3 zD0 (zA2 5) zA3 (nomark _)) (zA5 (zAj (j:=3) nd rfl (by trivial) (zAf zAp (zDn sl_D (zA2 3) zEb (zBz (zA2 7))) (zDn sl_D (zA2 3) (zBz (zAf zAp (zA2 7) zA3)) zEb)))
   (zAb (zAj (j:=4) nd rfl (by trivial) (zAl (ix_D hu) (zBk (zCt (zA1 (zA2 4) (zA1 (zAf zAp (zDn sl_D (zA2 4) zEb (zBz (zA2 7))) (zDn sl_D (zA2 4) (zBz (zAf zAp (zA2 7) zA3)) zEb)) zA4)))) (zAe C__law_draw (hr.mono (by decide)) rfl (zA1 (zA2 0) (zA1 zA3 zA4))))))) zAw)
   (zA5 (zBc (zB3 zD0 (zA2 5) zA3 (nomark _)) (zA5 (zAj (j:=3) nd rfl (by trivial) (zAf zAp (zA2 3) (zDn sl_D (zA2 3) (zBz (zA2 7)) (zBz (zAf zAp (zA2 7) zA3)))))
   (zAb (zAj (j:=4) nd rfl (by trivial) (zAf zAp (zA2 4) (zAl (ix_D hu) (zBk (zCt (zA1 (zDn sl_D (zA2 4) (zBz (zA2 7)) (zBz (zAf zAp (zA2 7) zA3))) (zA1 (zAn (zA1 (zAn (zA1 zA3 (zA1 zA3 zA4))) zA4)) (zA1 (zAn zA4) zA4))))) (zAe C__law_draw (hr.mono (by decide)) rfl (zA1 (zA2 0) (zA1 zA3 zA4)))))))) zAw)
   (zA5 (zBc (zB3 zD0 (zA2 5) zA3 (nomark _)) (zAb (zAj (j:=3) nd rfl (by trivial) (zAe C__law_exchanged (hr.mono (by decide)) rfl (zA1 (zA2 3) (zA1 (zA2 7) (zA1 (zAf zAp (zAl (ix_D hu) (zA2 3) (zA2 7)) (zAn (zA1 (zAn (zA1 (zAf zBa (zAe C__law_draw (hr.mono (by decide)) rfl (zA1 (zA2 0) (zA1 zA3 zA4))) zA3) (zA1 (zAf zBa (zAe C__law_draw (hr.mono (by decide)) rfl (zA1 (zA2 0) (zA1 zA3 zA4))) zA3) zA4))) zA4))) zA4)))))) zAw)
   (zA5 (zBc (dt_w (zU7 (zB3 zD0 (zA2 5) zA3 (nomark _)) (zQ2 (zB3 zEe (zBl zAo rfl T.b_len xY (zA1 (zAl (ix_D hu) (zA2 3) (zA2 7)) zA4)) zA3 (nomark _))))) (zAb (zAj (j:=3) nd rfl (by trivial) (zAe C__law_exchanged (hr.mono (by decide)) rfl (zA1 (zA2 3) (zA1 (zA2 7) (zA1 (zDn sl_D (zAl (ix_D hu) (zA2 3) (zA2 7)) (zBz zA3) zEb) zA4)))))) zAw)
   (zA5 (zBc (zB3 zD0 (zA2 5) zA3 (nomark _)) (zAb (zAj (j:=3) nd rfl (by trivial) (zAf zAp (zDn sl_D (zA2 3) (zBz zA3) zEb) (zDn sl_D (zA2 3) zEb (zBz zA3))))) zAw)
   (zA5 (zBc (zB3 zD0 (zA2 5) zA3 (nomark _)) (zAb (zAj (j:=4) nd rfl (by trivial) (zGa zB8 rfl T.b_tuple ue (zA1 (zBk (zB0 rfl (CompScope.mk' (sc:=zA8 zBx) (N:=n_9) (own:=["_law_a","_law_b"]) (fre:=[]) (ix:=[]) rfl rfl (by decide +kernel)) (zAx (zA2 4)) (fun cl C s0 H0 fp=>(zC0 rfl (zAd (zA9 (j:=0) (show List.Nodup (["_law_a","_law_b"]:List Str) by decide +kernel) rfl (Or.inl rfl) (Or.inr rfl)) (zAd (zA9 (j:=1) (show List.Nodup (["_law_a","_law_b"]:List Str) by decide +kernel) rfl (Or.inl rfl) (Or.inr rfl)) zBg)))) (fun cl C s0 H0 fp=>zAz) (fun cl C s0 H0 fp=>(zAn (zA1 (zAf zBa zA3 (zA2 0)) (zA1 (zAf zBa zA3 (zA2 1)) zA4)))))) zA4)))) zAw)
   (zAb (zAr (zAn (zA1 (zA2 2) (zA1 (zA2 3) (zA1 (zA2 4) zA4))))))))))))))))))
noncomputable abbrev zAt:Stmt:=top 22
theorem sc__law_carried_both:zB6 n_10 n_16 (zA8 zAt):=⟨rfl,rfl,rfl,by decide +kernel,rfl,by decide +kernel,by decide +kernel⟩
theorem zE2 {f:Addr}{fd:FuncData}(F:Fun K "_law_carried_both" "_law_carried_both" zAt f fd) (T:Txt K mg) (C__law_draw:zCn P w K mg base):FnOk P w K mg base CX0 2 f fd n_16 (spOf K XE0 DP.zBf):=by
 refine fn_d (k:=1) (b:=DP.zBh) F sc__law_carried_both rfl rfl fun cdv A outer s H E hr=>?_
 have hu:=zDl hr
 have hu64:=hr.units
 have hu1:=hr.units0
 have nd:=sc__law_carried_both.nd
 exact(zA5 (zAj (j:=3) nd rfl (by trivial) (zAl (ix_D hu) (zBk (zCt (zA1 zA3 (zA1 zA3 (zA1 zA3 (zA1 zA3 zA4)))))) (zAe C__law_draw (hr.mono (by decide)) rfl (zA1 (zA2 0) (zA1 zA3 zA4)))))
   (zA5 (zM6 (zAn (zA1 (zAf zBa (zAe C__law_draw (hr.mono (by decide)) rfl (zA1 (zA2 0) (zA1 (zAf zBy (zAf zBo zA3 (zA2 3)) zA3) zA4))) (zA2 3)) (zA1 (zAf zBa (zAe C__law_draw (hr.mono (by decide)) rfl (zA1 (zA2 0) (zA1 (zAf zBy (zAf zBo zA3 (zA2 3)) zA3) zA4))) (zA2 3)) zA4))) (zC0 rfl (zAd (zA9 (j:=4) nd rfl (by trivial)) (zAd (zA9 (j:=5) nd rfl (by trivial)) zBg))))
   (zA5 (zAj (j:=6) nd rfl (by trivial) (zG9 (zCt zA4)))
   (zA5 (zC4 vz rfl (zAx (zAn (zA1 (zAl (ix_D hu) (zA2 1) zA3) (zA1 (zA2 2) zA4)))) (zA9 (j:=7) nd rfl (by trivial)) (zAb (zDx (zNf uS yB yC zD1 (.inr (.inl rfl)) (zA2 6) (zA1 (zGa zB8 rfl T.b_tuple ue (zA1 (zBk (zB0 rfl (CompScope.mk' (sc:=zA8 zAt) (N:=n_10) (own:=["_law_row"]) (fre:=["_law_across","_law_up"]) (ix:=[4,5]) rfl rfl (by decide +kernel)) (zAx (zA2 7)) (fun cl C s0 H0 fp=>(zA9 (j:=0) (show List.Nodup n_11 by decide +kernel) rfl (Or.inl rfl) (Or.inr rfl))) (fun cl C s0 H0 fp=>zAz) (fun cl C s0 H0 fp=>(zGa zB8 rfl T.b_tuple ue (zA1 (zBk (zB0 rfl (CompScope.mk' (sc:=(zCp _ (zA8 zAt))) (N:=n_11) (own:=["_law_x","_law_y"]) (fre:=["_law_across","_law_up"]) (ix:=[1,2]) rfl rfl (by decide +kernel)) (zAx (zA2 0)) (fun cl C s0 H0 fp=>(zC0 rfl (zAd (zA9 (j:=0) (show List.Nodup n_12 by decide +kernel) rfl (Or.inl rfl) (Or.inr rfl)) (zAd (zA9 (j:=1) (show List.Nodup n_12 by decide +kernel) rfl (Or.inl rfl) (Or.inr rfl)) zBg)))) (fun cl C s0 H0 fp=>zAz) (fun cl C s0 H0 fp=>(zAn (zA1 (zAf zBy (zA2 0) (zA2 2)) (zA1 (zAf zBy (zA2 1) (zA2 3)) zA4)))))) zA4))))) zA4)) zA4)))))
   (zAb (zAr (zAn (zA1 (zAn (zA1 zCl (zA1 (zAl (ix_D hu) (zA2 6) zA3) (zA1 (zAl (ix_D hu) (zA2 1) zA3) zA4)))) (zA1 (zAl (ix_D hu) (zA2 6) zA3) zA4)))))))))
noncomputable abbrev zCy:Stmt:=top 12
theorem sc_falls_of:zB6 ["paper"] ["paper"] (zA8 zCy):=⟨rfl,rfl,rfl,by decide +kernel,rfl,by decide +kernel,by decide +kernel⟩
theorem zKe {f:Addr}{fd:FuncData}(F:Fun K "falls_of" "falls_of" zCy f fd) (T:Txt K mg) (C_fall_of:zK2 P w K mg base):FnOk P w K mg base CX0 3 f fd ["paper"] (spOf K XE0 DP.zD2):=by
 refine fn_d (k:=2) (b:=DP.zHh) F sc_falls_of rfl rfl fun cdv A outer s H E hr=>?_
 have hu:=zDl hr
 have hu64:=hr.units
 have hu1:=hr.units0
 have nd:=sc_falls_of.nd
 exact(zAb (zAr (zBk (zB0 rfl (CompScope.mk' (sc:=zA8 zCy) (N:=["paper"]) (own:=["row","slope"]) (fre:=[]) (ix:=[]) rfl rfl (by decide +kernel)) (zUa true true rfl T.b_zip (zA1 (zAl (ix_D hu) (zA2 0) zA3) (zA1 (zAl (ix_D hu) (zA2 0) zA3) zA4))) (fun cl C s0 H0 fp=>(zC0 rfl (zAd (zA9 (j:=0) (show List.Nodup (["row","slope"]:List Str) by decide +kernel) rfl (Or.inl rfl) (Or.inr rfl)) (zAd (zA9 (j:=1) (show List.Nodup (["row","slope"]:List Str) by decide +kernel) rfl (Or.inl rfl) (Or.inr rfl)) zBg)))) (fun cl C s0 H0 fp=>zAz) (fun cl C s0 H0 fp=>(zAe C_fall_of (hr.mono (by decide)) rfl (zA1 (zA2 0) (zA1 (zA2 1) zA4))))))))
noncomputable abbrev zBi:Stmt:=top 18
theorem sc__law_falling:zB6 n_5 ["_law_deal_here"] (zA8 zBi):=⟨rfl,rfl,rfl,by decide +kernel,rfl,by decide +kernel,by decide +kernel⟩
theorem zFs {f:Addr}{fd:FuncData}(F:Fun K "_law_falling" "_law_falling" zBi f fd) (T:Txt K mg) (C__law_draw:zCn P w K mg base) (C__law_healing:zE7 P w K mg base) (C__law_least:zCv P w K mg base):FnOk P w K mg base CX0 3 f fd ["_law_deal_here"] (spOf K XE0 DP.zC6):=by
 refine fn_d (k:=2) (b:=DP.zC7) F sc__law_falling rfl rfl fun cdv A outer s H E hr=>?_
 have hu:=zDl hr
 have hu64:=hr.units
 have hu1:=hr.units0
 have nd:=sc__law_falling.nd
 exact(zA5 (zG8 (zBk (zB0 rfl (CompScope.mk' (sc:=zA8 zBi) (N:=n_5) (own:=["_law_turn"]) (fre:=["_law_deal_here"]) (ix:=[0]) rfl rfl (by decide +kernel)) (zEi rfl T.b_range (zA1 zA3 zA4)) (fun cl C s0 H0 fp=>(zA9 (j:=0) (show List.Nodup (["_law_turn","_law_deal_here"]:List Str) by decide +kernel) rfl (Or.inl rfl) (Or.inr rfl))) (fun cl C s0 H0 fp=>zAz) (fun cl C s0 H0 fp=>(zAn (zA1 (zAf zBa (zAe C__law_draw (hr.mono (by decide)) rfl (zA1 (zA2 1) (zA1 zA3 zA4))) zA3) (zA1 (zAf zBa (zAe C__law_draw (hr.mono (by decide)) rfl (zA1 (zA2 1) (zA1 zA3 zA4))) zA3) zA4)))))) (zC0 rfl (zAd (zA9 (j:=1) nd rfl (by trivial)) (zAd (zA9 (j:=2) nd rfl (by trivial)) zBg))))
   (zA5 (zAj (j:=3) nd rfl (by trivial) (zBk (zCt (zA1 (zA2 1) (zA1 (zA2 2) (zA1 (zAn (zA1 (zAf zBa (zAf zBa zA3 (zAl (ix_D hu) (zA2 1) zA3)) (zAl (ix_D hu) (zA2 2) zA3)) (zA1 (zAf zBa (zAf zBa zA3 (zAl (ix_D hu) (zA2 1) zA3)) (zAl (ix_D hu) (zA2 2) zA3)) zA4))) zA4))))))
   (zA5 (zFi (j:=3) nd rfl (by trivial) rfl (CompScope.mk' (sc:=zA8 zBi) (N:=n_5) (own:=["_law_slope"]) (fre:=[]) (ix:=[]) rfl rfl (by decide +kernel)) (zAx (zA2 3)) (fun cl C s0 H0 fp=>(zA9 (j:=0) (show List.Nodup (["_law_slope"]:List Str) by decide +kernel) rfl (Or.inl rfl) (Or.inr rfl))) (fun cl C s0 H0 fp=>(zIg (zB3 (zDj hu64) (zA2 0) (zAn (zA1 zA3 (zA1 zA3 zA4))) (nomark _)))) (fun cl C s0 H0 fp=>(zA2 0)))
   (zA5 (zBc (zB3 zLo (zBl zAo rfl T.b_len xY (zA1 (zA2 3) zA4)) zA3 (nomark _)) (zAb (zAj (j:=3) nd rfl (by trivial) (zBk (zCt (zA1 (zAn (zA1 zA3 (zA1 zA3 zA4))) (zA1 (zAn (zA1 (zQ7 zFl zA3) (zA1 zA3 zA4))) zA4)))))) zAw)
   (zA5 (zFj (i:=4) (j:=5) rfl nd rfl rfl (by decide) rfl rfl (zA1 (zAe C__law_draw (hr.mono (by decide)) rfl (zA1 (zA2 0) (zA1 (zBl zAo rfl T.b_len xY (zA1 (zA2 3) zA4)) zA4))) (zA1 (zG9 (zCt zA4)) zA4)) rfl)
   (zA5 (zC4 vz rfl (zX1 false rfl T.b_enumerate (zA2 3)) (zC0 rfl (zAd (zA9 (j:=6) nd rfl (by trivial)) (zAd (zC0 rfl (zAd (zA9 (j:=7) nd rfl (by trivial)) (zAd (zA9 (j:=8) nd rfl (by trivial)) zBg))) zBg))) (zA5 (zAj (j:=9) nd rfl (by trivial) (zG9 (zCt zA4)))
   (zA5 (zC4 vz rfl (zEi rfl T.b_range (zA1 (zAf zBy zA3 (zAe C__law_draw (hr.mono (by decide)) rfl (zA1 (zA2 0) (zA1 zA3 zA4)))) zA4)) (zA9 (j:=10) nd rfl (by trivial)) (zA5 (zFj (i:=11) (j:=12) rfl nd rfl rfl (by decide) rfl rfl (zA1 (zAf zBy (zAe C__law_draw (hr.mono (by decide)) rfl (zA1 (zA2 0) (zA1 zA3 zA4))) (zGa zJr rfl T.b_int PyProof.Rows.boot_int (zA1 (zDd zD0 (zA2 6) (zA2 4) (nomark _)) zA4))) (zA1 (zAf zBa (zAe C__law_draw (hr.mono (by decide)) rfl (zA1 (zA2 0) (zA1 zA3 zA4))) zA3) zA4)) rfl)
   (zAb (zDx (zNf uS yB yC zD1 (.inr (.inl rfl)) (zA2 9) (zA1 (zAn (zA1 (zAf zBa (zAf zBo (zA2 7) (zA2 11)) (zAf zBo (zA2 8) (zA2 12))) (zA1 (zAf zBy (zAf zBo (zA2 8) (zA2 11)) (zAf zBo (zA2 7) (zA2 12))) zA4))) zA4))))))
   (zAb (zDx (zNf uS yB yC zD1 (.inr (.inl rfl)) (zA2 5) (zA1 (zGa zB8 rfl T.b_tuple ue (zA1 (zBk (zUb rfl hu64 (zA2 9) rfl T.b_sorted rfl T.b_set)) zA4)) zA4)))))))
   (zAb (zAr (zAn (zA1 (zAn (zA1 zCl (zA1 (zGa zB8 rfl T.b_tuple ue (zA1 (zA2 5) zA4)) (zA1 (zGa zB8 rfl T.b_tuple ue (zA1 (zA2 3) zA4)) zA4)))) (zA1 (zAe C__law_healing (hr.mono (by decide)) rfl (zA1 (zAe C__law_least (hr.mono (by decide)) rfl (zA1 (zA2 5) zA4)) zA4)) zA4)))))))))))
noncomputable abbrev zBm:Stmt:=top 10
theorem sc_healing_holds:zB6 n_1 ["plain","paper"] (zA8 zBm):=⟨rfl,rfl,rfl,by decide +kernel,rfl,by decide +kernel,by decide +kernel⟩
theorem zF8 {f:Addr}{fd:FuncData}(F:Fun K "healing_holds" "healing_holds" zBm f fd) (T:Txt K mg) (C_is_nought:zGq P w K mg base) (C_is_healing:zF6 P w K mg base) (C_falls_of:zHi P w K mg base):FnOk P w K mg base CX0 4 f fd ["plain","paper"] (spOf K XE0 DP.zAk):=by
 refine fn_d (k:=3) (b:=DP.zDo) F sc_healing_holds rfl rfl fun cdv A outer s H E hr=>?_
 have hu:=zDl hr
 have hu64:=hr.units
 have hu1:=hr.units0
 have nd:=sc_healing_holds.nd
 obtain⟨_,hc_HEALS,rc_HEALS⟩:=T.c_HEALS
 obtain⟨_,hc_MOST_ROWS,rc_MOST_ROWS⟩:=T.c_MOST_ROWS
 exact(zA5 (zBc (dt_w (zKu (zB3 (zDj hu64) (zBl zAo rfl T.b_len xY (zA1 (zA2 1) zA4)) zA3 (nomark _)) (zHc (zB3 (zDj hu64) (zAl (ix_D hu) (zA2 1) zA3) (de_c (zLm rfl hc_HEALS rc_HEALS) fun _ _=>rfl) (nomark _))))) (zAb (zAr zGb)) zAw)
   (zA5 (zAj (j:=2) nd rfl (by trivial) (zAl (ix_D hu) (zA2 1) zA3))
   (zA5 (zAj (j:=3) nd rfl (by trivial) (zAl (ix_D hu) (zA2 1) zA3))
   (zA5 (zBc (dt_w (zKu (zB3 (zDj hu64) (zBl zAo rfl T.b_len xY (zA1 (zA2 2) zA4)) (zBl zAo rfl T.b_len xY (zA1 (zA2 3) zA4)) (nomark _)) (zHc (zG7 (zT3 zTx zTx zA3 (zBl zAo rfl T.b_len xY (zA1 (zA2 2) zA4)) (de_c (zLm rfl hc_MOST_ROWS rc_MOST_ROWS) fun _ _=>rfl)))))) (zAb (zAr zGb)) zAw)
   (zA5 (zBc (zG7 (zG6 (zBl (zDz rfl) rfl T.b_all yO (zA1 (zBk (zB0 rfl (CompScope.mk' (sc:=zA8 zBm) (N:=n_1) (own:=["row"]) (fre:=["plain"]) (ix:=[0]) rfl rfl (by decide +kernel)) (zAx (zA2 2)) (fun cl C s0 H0 fp=>(zA9 (j:=0) (show List.Nodup (["row","plain"]:List Str) by decide +kernel) rfl (Or.inl rfl) (Or.inr rfl))) (fun cl C s0 H0 fp=>zAz) (fun cl C s0 H0 fp=>(zAe C_is_healing (hr.mono (by decide)) rfl (zA1 (zA2 1) (zA1 (zA2 0) zA4)))))) zA4)))) (zAb (zAr zGb)) zAw)
   (zAb (zAr (zQa (zAe C_is_nought (hr.mono (by decide)) rfl (zA1 (zA2 3) zA4)) (zQ9 (zDd zTy (zBl (zD3 rfl) rfl T.b_sum yf (zA1 (zAe C_falls_of (hr.mono (by decide)) rfl (zA1 (zA2 1) zA4)) zA4)) zA3 (nomark _)))))))))))
noncomputable abbrev zIy:Stmt:=top 23
theorem sc_law:zB6 n_13 ["_law_script"] (zA8 zIy):=⟨rfl,rfl,rfl,by decide +kernel,rfl,by decide +kernel,by decide +kernel⟩
theorem zZ2 {f:Addr}{fd:FuncData}(F:Fun K "law" "law" zIy f fd) (T:Txt K mg) (C__law_deal:zGr P w K mg base) (C__law_falling:zE8 P w K mg base) (C__law_carried_both:zCo P w K mg base) (C_healing_holds:zDp P w K mg base) (C__law_draw:zCn P w K mg base) (C__law_least:zCv P w K mg base) (C__law_heals:zF7 P w K mg base) (C__law_spoilt:zEn P w K mg base):FnOk P w K mg base CX0 5 f fd ["_law_script"] (spOf K XE0 DP.zN9):=by
 refine fn_d (k:=4) (b:=DP.zXa) F sc_law rfl rfl fun cdv A outer s H E hr=>?_
 have hu:=zDl hr
 have hu64:=hr.units
 have hu1:=hr.units0
 have nd:=sc_law.nd
 exact(zA5 (zAj (j:=1) nd rfl (by trivial) (zAe C__law_deal (hr.mono (by decide)) rfl (zA1 (zA2 0) zA4)))
   (zA5 (zG8 (zAe C__law_falling (hr.mono (by decide)) rfl (zA1 (zA2 1) zA4)) (zC0 rfl (zAd (zA9 (j:=2) nd rfl (by trivial)) (zAd (zA9 (j:=3) nd rfl (by trivial)) zBg))))
   (zA5 (zBc (zB3 zD0 (zAe C__law_draw (hr.mono (by decide)) rfl (zA1 (zA2 1) (zA1 zA3 zA4))) zA3 (nomark _)) (zAb (zAj (j:=2) nd rfl (by trivial) (zAn (zA1 zCl (zA1 (zAf zAp (zAl (ix_D hu) (zA2 2) zA3) (zQ8 (zAl (ix_D hu) (zA2 2) zA3) (zQ7 zFl zA3))) (zA1 (zAf zAp (zAl (ix_D hu) (zA2 2) zA3) (zQ8 (zAl (ix_D hu) (zA2 2) zA3) (zQ7 zFl zA3))) zA4)))))) zAw)
   (zA5 (zG8 (zAe C__law_carried_both (hr.mono (by decide)) rfl (zA1 (zA2 1) (zA1 (zA2 2) (zA1 (zA2 3) zA4)))) (zC0 rfl (zAd (zA9 (j:=2) nd rfl (by trivial)) (zAd (zA9 (j:=3) nd rfl (by trivial)) zBg))))
   (zA5 (zC4 vz rfl (zAx (zAn (zA1 zA3 (zA1 zA3 (zA1 zA3 (zA1 zA3 zA4)))))) (zA9 (j:=4) nd rfl (by trivial)) (zA5 (zAj (j:=5) nd rfl (by trivial) (zAf zBa (zA2 4) (zBl zAo rfl T.b_len xY (zA1 (zAl (ix_D hu) (zA2 2) zA3) zA4))))
   (zA5 (zAj (j:=6) nd rfl (by trivial) (zAn (zA1 zCl (zA1 (zAf zAp (zAl (ix_D hu) (zA2 2) zA3) (zAf zEq (zDn sl_D (zAl (ix_D hu) (zA2 2) zA3) zEb (zBz zA3)) (zA2 5))) (zA1 (zAf zAp (zAl (ix_D hu) (zA2 2) zA3) (zAf zEq (zAn (zA1 (zAn (zA1 zA3 (zA1 zA3 zA4))) zA4)) (zA2 5))) zA4)))))
   (zAb (zBc (zB3 (zDj hu64) (zAe C_healing_holds (hr.mono (by decide)) rfl (zA1 (zA2 3) (zA1 (zA2 6) zA4))) (zDd zLo (zA2 4) zA3 (nomark _)) (nomark _)) (zAb (zAr zGb)) zAw)))))
   (zA5 (zM6 (zAn (zA1 (zAl (ix_D hu) (zAl (ix_D hu) (zAl (ix_D hu) (zA2 2) zA3) zA3) zA3) (zA1 (zAl (ix_D hu) (zAl (ix_D hu) (zA2 2) zA3) zA3) zA4))) (zC0 rfl (zAd (zC0 rfl (zAd (zA9 (j:=7) nd rfl (by trivial)) (zAd (zA9 (j:=8) nd rfl (by trivial)) zBg))) (zAd (zC0 rfl (zAd (zA9 (j:=9) nd rfl (by trivial)) (zAd (zA9 (j:=10) nd rfl (by trivial)) zBg))) zBg))))
   (zA5 (zAj (j:=11) nd rfl (by trivial) (zGa zB8 rfl T.b_tuple ue (zA1 (zBk (zB0 rfl (CompScope.mk' (sc:=zA8 zIy) (N:=n_13) (own:=["_law_far"]) (fre:=n_8) (ix:=[7,8,9,10]) rfl rfl (by decide +kernel)) (zEi rfl T.b_range (zA1 (zAf zAp zA3 (zAe C__law_draw (hr.mono (by decide)) rfl (zA1 (zA2 1) (zA1 zA3 zA4)))) zA4)) (fun cl C s0 H0 fp=>(zA9 (j:=0) (show List.Nodup n_14 by decide +kernel) rfl (Or.inl rfl) (Or.inr rfl))) (fun cl C s0 H0 fp=>zAz) (fun cl C s0 H0 fp=>(zAn (zA1 (zAf zAp (zA2 1) (zAf zEq (zA2 3) (zA2 0))) (zA1 (zAf zAp (zA2 2) (zAf zEq (zA2 4) (zA2 0))) zA4)))))) zA4)))
   (zA5 (zC4 vz rfl (zAx (zAn (zA1 zA3 (zA1 zA3 (zA1 (zAf zAp zA3 (zAe C__law_draw (hr.mono (by decide)) rfl (zA1 (zA2 1) (zA1 zA3 zA4)))) zA4))))) (zA9 (j:=12) nd rfl (by trivial)) (zA5 (zAj (j:=13) nd rfl (by trivial) (zAf zAp (zAf zAp (zA2 11) (zAn (zA1 (zAn (zA1 (zAf zBa (zA2 7) (zAf zEq (zA2 9) (zA2 12))) (zA1 (zAf zBa (zA2 8) (zAf zEq (zA2 10) (zA2 12))) zA4))) zA4))) (zDn sl_D (zAl (ix_D hu) (zAl (ix_D hu) (zA2 2) zA3) zA3) (zBz zA3) zEb)))
   (zA5 (zAj (j:=14) nd rfl (by trivial) (zAn (zA1 zCl (zA1 (zAf zAp (zAn (zA1 (zA2 13) zA4)) (zDn sl_D (zAl (ix_D hu) (zA2 2) zA3) (zBz zA3) zEb)) (zA1 (zAl (ix_D hu) (zA2 2) zA3) zA4)))))
   (zAb (zBc (zB3 (zDj hu64) (zAe C_healing_holds (hr.mono (by decide)) rfl (zA1 (zA2 3) (zA1 (zA2 14) zA4))) (zAe C__law_heals (hr.mono (by decide)) rfl (zA1 (zA2 3) (zA1 (zA2 14) zA4))) (nomark _)) (zAb (zAr zGb)) zAw)))))
   (zA5 (zBc (dt_w (zKu (zG7 (zG6 (zAe C_healing_holds (hr.mono (by decide)) rfl (zA1 (zA2 3) (zA1 (zA2 2) zA4))))) (zHc (zG7 (zG6 (zAe C__law_heals (hr.mono (by decide)) rfl (zA1 (zA2 3) (zA1 (zA2 2) zA4)))))))) (zAb (zAr zGb)) zAw)
   (zA5 (zAj (j:=15) nd rfl (by trivial) (zG9 (zCt (zA1 (zA2 3) (zA1 (zAe C__law_least (hr.mono (by decide)) rfl (zA1 (zAf zAp (zA2 3) (zAn (zA1 (zDn sl_D (zAl (ix_D hu) (zA2 3) zA3) zEb (zBz zA3)) zA4))) zA4)) zA4)))))
   (zA5 (zBc (zB3 zEe (zBl zAo rfl T.b_len xY (zA1 (zA2 3) zA4)) zA3 (nomark _)) (zAb (zDx (zNf uS yB yC zD1 (.inr (.inl rfl)) (zA2 15) (zA1 (zDn sl_D (zA2 3) (zBz zA3) zEb) zA4)))) zAw)
   (zA5 (zC4 vz rfl (zEi rfl T.b_range (zA1 zA3 zA4)) (zA9 (j:=16) nd rfl (by trivial)) (zA5 (zAj (j:=14) nd rfl (by trivial) (zAl (ix_D hu) (zBk (zCt (zA1 (zA2 2) (zA1 (zAe C__law_spoilt (hr.mono (by decide)) rfl (zA1 (zA2 1) (zA1 (zA2 2) zA4))) zA4)))) (zGa zJr rfl T.b_int PyProof.Rows.boot_int (zA1 (zDd zEe (zA2 16) zA3 (nomark _)) zA4))))
   (zA5 (zBc (zB3 zEe (zA2 16) zA3 (nomark _)) (zAb (zAj (j:=14) nd rfl (by trivial) (zAe C__law_spoilt (hr.mono (by decide)) rfl (zA1 (zA2 1) (zA1 (zA2 14) zA4))))) zAw)
   (zAb (zC4 vz rfl (zAx (zA2 15)) (zA9 (j:=17) nd rfl (by trivial)) (zAb (zBc (zB3 zEe (zBl zAo rfl T.b_len xY (zA1 (zAl (ix_D hu) (zA2 14) zA3) zA4)) zA3 (nomark _)) (zA5 (zAj (j:=18) nd rfl (by trivial) (zAe C_healing_holds (hr.mono (by decide)) rfl (zA1 (zA2 17) (zA1 (zA2 14) zA4))))
   (zAb (zBc (dt_w (zKu (zG7 (zG6 (zBl zQt rfl T.b_isinstance PyProof.Rows.boot_isinstance (zA1 (zA2 18) (zA1 (yBp rfl T.b_bool PyProof.Rows.boot_bool rfl) zA4))))) (zHc (zB3 (zDj hu64) (zA2 18) (zAe C__law_heals (hr.mono (by decide)) rfl (zA1 (zA2 17) (zA1 (zA2 14) zA4))) (nomark _))))) (zAb (zAr zGb)) zAw))) zAw)))))))
   (zAb (zAr (zAe C_healing_holds (hr.mono (by decide)) rfl (zA1 (zA2 3) (zA1 (zA2 2) zA4)))))))))))))))))
end
noncomputable abbrev FO (x:Str) (st:Stmt) (oc:Value) (od:Option Addr) (kV dc pm:Value) (an:Option Addr) (cd ct:Value) (sl:Array (Option Value)):Option Obj:=some ⟨oc,od,.func (PySem.W.fnOf x x (zEz st) (zDa st) (zA8 st) .none kV dc pm an cd ct),sl⟩
theorem all_mk {l:PySem.W.OpenLaw}{w:World}{K:PySem.W.Frag}{h:Heap}{mg:Str->Option Value}{fa f0 f1 f2 f3 f4 f5 f6 f7 f8 f9 f10 f11 f12 f13 f14 f15 f16:Addr}(X:K.In h) (G:h.Ns mainGlobals mg) (hfa:mg "law"=some (.ref fa))
  {od0 an0 od1 an1 od2 an2 od3 an3 od4 an4 od5 an5 od6 an6 od7 an7 od8 an8 od9 an9 od10 an10 od11 an11 od12 an12 od13 an13 od14 an14 od15 an15 od16 an16:Option Addr}{sl0 sl1 sl2 sl3 sl4 sl5 sl6 sl7 sl8 sl9 sl10 sl11 sl12 sl13 sl14 sl15 sl16:Array (Option Value)}{oc0 kV0 dc0 pm0 cd0 ct0 oc1 kV1 dc1 pm1 cd1 ct1 oc2 kV2 dc2 pm2 cd2 ct2 oc3 kV3 dc3 pm3 cd3 ct3 oc4 kV4 dc4 pm4 cd4 ct4 oc5 kV5 dc5 pm5 cd5 ct5 oc6 kV6 dc6 pm6 cd6 ct6 oc7 kV7 dc7 pm7 cd7 ct7 oc8 kV8 dc8 pm8 cd8 ct8 oc9 kV9 dc9 pm9 cd9 ct9 oc10 kV10 dc10 pm10 cd10 ct10 oc11 kV11 dc11 pm11 cd11 ct11 oc12 kV12 dc12 pm12 cd12 ct12 oc13 kV13 dc13 pm13 cd13 ct13 oc14 kV14 dc14 pm14 cd14 ct14 oc15 kV15 dc15 pm15 cd15 ct15 oc16 kV16 dc16 pm16 cd16 ct16:Value}
  (a0:PySem.W.nsIn K mainGlobals "worth"=some (some (.ref f0))) (l0:K.lookup f0=FO "worth" zHu oc0 od0 kV0 dc0 pm0 an0 cd0 ct0 sl0) (c0:PySem.W.codeIn K cd0 "worth"=true) (k0:PySem.W.keepIn K (.ref f0)=true)
  (a1:PySem.W.nsIn K mainGlobals "lookup_of"=some (some (.ref f1))) (l1:K.lookup f1=FO "lookup_of" zCf oc1 od1 kV1 dc1 pm1 an1 cd1 ct1 sl1) (c1:PySem.W.codeIn K cd1 "lookup_of"=true) (k1:PySem.W.keepIn K (.ref f1)=true)
  (a2:PySem.W.nsIn K mainGlobals "is_nought"=some (some (.ref f2))) (l2:K.lookup f2=FO "is_nought" zC2 oc2 od2 kV2 dc2 pm2 an2 cd2 ct2 sl2) (c2:PySem.W.codeIn K cd2 "is_nought"=true) (k2:PySem.W.keepIn K (.ref f2)=true)
  (a3:PySem.W.nsIn K mainGlobals "_law_deal"=some (some (.ref f3))) (l3:K.lookup f3=FO "_law_deal" zC3 oc3 od3 kV3 dc3 pm3 an3 cd3 ct3 sl3) (c3:PySem.W.codeIn K cd3 "_law_deal"=true) (k3:PySem.W.keepIn K (.ref f3)=true)
  (a4:PySem.W.nsIn K mainGlobals "_law_draw"=some (some (.ref f4))) (l4:K.lookup f4=FO "_law_draw" zD6 oc4 od4 kV4 dc4 pm4 an4 cd4 ct4 sl4) (c4:PySem.W.codeIn K cd4 "_law_draw"=true) (k4:PySem.W.keepIn K (.ref f4)=true)
  (a5:PySem.W.nsIn K mainGlobals "_law_least"=some (some (.ref f5))) (l5:K.lookup f5=FO "_law_least" zBn oc5 od5 kV5 dc5 pm5 an5 cd5 ct5 sl5) (c5:PySem.W.codeIn K cd5 "_law_least"=true) (k5:PySem.W.keepIn K (.ref f5)=true)
  (a6:PySem.W.nsIn K mainGlobals "_law_heals"=some (some (.ref f6))) (l6:K.lookup f6=FO "_law_heals" zB7 oc6 od6 kV6 dc6 pm6 an6 cd6 ct6 sl6) (c6:PySem.W.codeIn K cd6 "_law_heals"=true) (k6:PySem.W.keepIn K (.ref f6)=true)
  (a7:PySem.W.nsIn K mainGlobals "_law_exchanged"=some (some (.ref f7))) (l7:K.lookup f7=FO "_law_exchanged" zBr oc7 od7 kV7 dc7 pm7 an7 cd7 ct7 sl7) (c7:PySem.W.codeIn K cd7 "_law_exchanged"=true) (k7:PySem.W.keepIn K (.ref f7)=true)
  (a8:PySem.W.nsIn K mainGlobals "is_healing"=some (some (.ref f8))) (l8:K.lookup f8=FO "is_healing" zBt oc8 od8 kV8 dc8 pm8 an8 cd8 ct8 sl8) (c8:PySem.W.codeIn K cd8 "is_healing"=true) (k8:PySem.W.keepIn K (.ref f8)=true)
  (a9:PySem.W.nsIn K mainGlobals "fall_of"=some (some (.ref f9))) (l9:K.lookup f9=FO "fall_of" zDi oc9 od9 kV9 dc9 pm9 an9 cd9 ct9 sl9) (c9:PySem.W.codeIn K cd9 "fall_of"=true) (k9:PySem.W.keepIn K (.ref f9)=true)
  (a10:PySem.W.nsIn K mainGlobals "_law_healing"=some (some (.ref f10))) (l10:K.lookup f10=FO "_law_healing" zAu oc10 od10 kV10 dc10 pm10 an10 cd10 ct10 sl10) (c10:PySem.W.codeIn K cd10 "_law_healing"=true) (k10:PySem.W.keepIn K (.ref f10)=true)
  (a11:PySem.W.nsIn K mainGlobals "_law_spoilt"=some (some (.ref f11))) (l11:K.lookup f11=FO "_law_spoilt" zBx oc11 od11 kV11 dc11 pm11 an11 cd11 ct11 sl11) (c11:PySem.W.codeIn K cd11 "_law_spoilt"=true) (k11:PySem.W.keepIn K (.ref f11)=true)
  (a12:PySem.W.nsIn K mainGlobals "_law_carried_both"=some (some (.ref f12))) (l12:K.lookup f12=FO "_law_carried_both" zAt oc12 od12 kV12 dc12 pm12 an12 cd12 ct12 sl12) (c12:PySem.W.codeIn K cd12 "_law_carried_both"=true) (k12:PySem.W.keepIn K (.ref f12)=true)
  (a13:PySem.W.nsIn K mainGlobals "falls_of"=some (some (.ref f13))) (l13:K.lookup f13=FO "falls_of" zCy oc13 od13 kV13 dc13 pm13 an13 cd13 ct13 sl13) (c13:PySem.W.codeIn K cd13 "falls_of"=true) (k13:PySem.W.keepIn K (.ref f13)=true)
  (a14:PySem.W.nsIn K mainGlobals "_law_falling"=some (some (.ref f14))) (l14:K.lookup f14=FO "_law_falling" zBi oc14 od14 kV14 dc14 pm14 an14 cd14 ct14 sl14) (c14:PySem.W.codeIn K cd14 "_law_falling"=true) (k14:PySem.W.keepIn K (.ref f14)=true)
  (a15:PySem.W.nsIn K mainGlobals "healing_holds"=some (some (.ref f15))) (l15:K.lookup f15=FO "healing_holds" zBm oc15 od15 kV15 dc15 pm15 an15 cd15 ct15 sl15) (c15:PySem.W.codeIn K cd15 "healing_holds"=true) (k15:PySem.W.keepIn K (.ref f15)=true)
  (a16:PySem.W.nsIn K mainGlobals "law"=some (some (.ref f16))) (l16:K.lookup f16=FO "law" zIy oc16 od16 kV16 dc16 pm16 an16 cd16 ct16 sl16) (c16:PySem.W.codeIn K cd16 "law"=true) (k16:PySem.W.keepIn K (.ref f16)=true)
  (z0:PySem.W.nsIn K mainGlobals "all"=some none)
  (z1:PySem.W.nsIn K mainGlobals "any"=some none)
  (z2:PySem.W.nsIn K mainGlobals "bool"=some none)
  (z3:PySem.W.nsIn K mainGlobals "dict"=some none)
  (z4:PySem.W.nsIn K mainGlobals "enumerate"=some none)
  (z5:PySem.W.nsIn K mainGlobals "int"=some none)
  (z6:PySem.W.nsIn K mainGlobals "isinstance"=some none)
  (z7:PySem.W.nsIn K mainGlobals "len"=some none)
  (z8:PySem.W.nsIn K mainGlobals "list"=some none)
  (z9:PySem.W.nsIn K mainGlobals "max"=some none)
  (z10:PySem.W.nsIn K mainGlobals "min"=some none)
  (z11:PySem.W.nsIn K mainGlobals "range"=some none)
  (z12:PySem.W.nsIn K mainGlobals "reversed"=some none)
  (z13:PySem.W.nsIn K mainGlobals "set"=some none)
  (z14:PySem.W.nsIn K mainGlobals "sorted"=some none)
  (z15:PySem.W.nsIn K mainGlobals "sum"=some none)
  (z16:PySem.W.nsIn K mainGlobals "tuple"=some none)
  (z17:PySem.W.nsIn K mainGlobals "zip"=some none)
  {tk0:Tok}(e0:PySem.W.nsIn K mainGlobals "HEALS"=some (some (.str (Str.ofString "heals") tk0)))
  {tk1:Tok}(e1:PySem.W.nsIn K mainGlobals "MOST_ROWS"=some (some (.int 8 tk1)))
  : ∃fd:FuncData,(∀(s:Shared) (v:Value),BindsTo s fd ⟨[v],[]⟩ [("_law_script",v)])/\∀base:Heap,K.In base->base.Ns mainGlobals mg->FnOk l.prog w K mg base CX0 5 fa fd ["_law_script"] (spOf K XE0 DP.zN9):=by
 have e:=hfa.symm.trans (xT X G a16)
 cases e
 have T:Txt K mg:=⟨xZ X G z0,xZ X G z1,xZ X G z2,xZ X G z3,xZ X G z4,xZ X G z5,xZ X G z6,xZ X G z7,xZ X G z8,xZ X G z9,xZ X G z10,xZ X G z11,xZ X G z12,xZ X G z13,xZ X G z14,xZ X G z15,xZ X G z16,xZ X G z17,⟨_,xT X G e0,⟨_,rfl⟩⟩,⟨_,xT X G e1,⟨_,rfl⟩⟩⟩
 have F0:=zC8 (st:=zHu) l0 c0 k0
 have F1:=zC8 (st:=zCf) l1 c1 k1
 have F2:=zC8 (st:=zC2) l2 c2 k2
 have F3:=zC8 (st:=zC3) l3 c3 k3
 have F4:=zC8 (st:=zD6) l4 c4 k4
 have F5:=zC8 (st:=zBn) l5 c5 k5
 have F6:=zC8 (st:=zB7) l6 c6 k6
 have F7:=zC8 (st:=zBr) l7 c7 k7
 have F8:=zC8 (st:=zBt) l8 c8 k8
 have F9:=zC8 (st:=zDi) l9 c9 k9
 have F10:=zC8 (st:=zAu) l10 c10 k10
 have F11:=zC8 (st:=zBx) l11 c11 k11
 have F12:=zC8 (st:=zAt) l12 c12 k12
 have F13:=zC8 (st:=zCy) l13 c13 k13
 have F14:=zC8 (st:=zBi) l14 c14 k14
 have F15:=zC8 (st:=zBm) l15 c15 k15
 have F16:=zC8 (st:=zIy) l16 c16 k16
 refine⟨PySem.W.fnOf "law" "law" (zEz zIy) (zDa zIy) (zA8 zIy) .none kV16 dc16 pm16 an16 cd16 ct16,fun s v=>.of_eq rfl,fun base _ _=>?_⟩
 have C_worth:zR6 l.prog w K mg base:=⟨_,_,zSc F0 T,xT X G a0,F0.kp,F0.binds (ps:=["slope","cell"]) fun _ _ _ _ _ _ us hl=>match us,hl with | [_,_],_=>rfl⟩
 have C_lookup_of:zGp l.prog w K mg base:=⟨_,_,zJ2 F1 T,xT X G a1,F1.kp,F1.binds (ps:=["things"]) fun _ _ _ _ _ _ us hl=>match us,hl with | [_],_=>rfl⟩
 have C_is_nought:zGq l.prog w K mg base:=⟨_,_,zJ3 F2 T,xT X G a2,F2.kp,F2.binds (ps:=["slopes"]) fun _ _ _ _ _ _ us hl=>match us,hl with | [_],_=>rfl⟩
 have C__law_deal:zGr l.prog w K mg base:=⟨_,_,zJ5 F3 T,xT X G a3,F3.kp,F3.binds (ps:=["_law_script"]) fun _ _ _ _ _ _ us hl=>match us,hl with | [_],_=>rfl⟩
 have C__law_draw:zCn l.prog w K mg base:=⟨_,_,zJ4 F4 T,xT X G a4,F4.kp,F4.binds (ps:=["_law_deal_here","_law_many"]) fun _ _ _ _ _ _ us hl=>match us,hl with | [_,_],_=>rfl⟩
 have C__law_least:zCv l.prog w K mg base:=⟨_,_,zHz F5 T,xT X G a5,F5.kp,F5.binds (ps:=["_law_rows"]) fun _ _ _ _ _ _ us hl=>match us,hl with | [_],_=>rfl⟩
 have C__law_heals:zF7 l.prog w K mg base:=⟨_,_,zI0 F6 T,xT X G a6,F6.kp,F6.binds (ps:=["_law_plain","_law_paper"]) fun _ _ _ _ _ _ us hl=>match us,hl with | [_,_],_=>rfl⟩
 have C__law_exchanged:zDg l.prog w K mg base:=⟨_,_,zEr F7 T,xT X G a7,F7.kp,F7.binds (ps:=n_15) fun _ _ _ _ _ _ us hl=>match us,hl with | [_,_,_],_=>rfl⟩
 have C_is_healing:zF6 l.prog w K mg base:=⟨_,_,zHy F8 T C_lookup_of,xT X G a8,F8.kp,F8.binds (ps:=["plain","row"]) fun _ _ _ _ _ _ us hl=>match us,hl with | [_,_],_=>rfl⟩
 have C_fall_of:zK2 l.prog w K mg base:=⟨_,_,zMv F9 T C_worth,xT X G a9,F9.kp,F9.binds (ps:=["row","slope"]) fun _ _ _ _ _ _ us hl=>match us,hl with | [_,_],_=>rfl⟩
 have C__law_healing:zE7 l.prog w K mg base:=⟨_,_,zFr F10 T C__law_least,xT X G a10,F10.kp,F10.binds (ps:=["_law_plain"]) fun _ _ _ _ _ _ us hl=>match us,hl with | [_],_=>rfl⟩
 have C__law_spoilt:zEn l.prog w K mg base:=⟨_,_,zGu F11 T C__law_draw C__law_exchanged,xT X G a11,F11.kp,F11.binds (ps:=["_law_deal_here","_law_paper"]) fun _ _ _ _ _ _ us hl=>match us,hl with | [_,_],_=>rfl⟩
 have C__law_carried_both:zCo l.prog w K mg base:=⟨_,_,zE2 F12 T C__law_draw,xT X G a12,F12.kp,F12.binds (ps:=n_16) fun _ _ _ _ _ _ us hl=>match us,hl with | [_,_,_],_=>rfl⟩
 have C_falls_of:zHi l.prog w K mg base:=⟨_,_,zKe F13 T C_fall_of,xT X G a13,F13.kp,F13.binds (ps:=["paper"]) fun _ _ _ _ _ _ us hl=>match us,hl with | [_],_=>rfl⟩
 have C__law_falling:zE8 l.prog w K mg base:=⟨_,_,zFs F14 T C__law_draw C__law_healing C__law_least,xT X G a14,F14.kp,F14.binds (ps:=["_law_deal_here"]) fun _ _ _ _ _ _ us hl=>match us,hl with | [_],_=>rfl⟩
 have C_healing_holds:zDp l.prog w K mg base:=⟨_,_,zF8 F15 T C_is_nought C_is_healing C_falls_of,xT X G a15,F15.kp,F15.binds (ps:=["plain","paper"]) fun _ _ _ _ _ _ us hl=>match us,hl with | [_,_],_=>rfl⟩
 exact zZ2 F16 T C__law_deal C__law_falling C__law_carried_both C_healing_holds C__law_draw C__law_least C__law_heals C__law_spoilt
theorem walk {l:PySem.W.OpenLaw}{q:Program}{loose:List Str}{XP:(Str->Option Value)->Heap->Prop}{YP:World->Heap->Prop}{d:DefRec}{K:Params->PySem.W.Frag}(hn:l.most=some 63) (hdf:d.params.defaults=[])
  (hY:∀(w:World) (h:Heap),YP w h->(K w.params).In h)
  (F:∀(w:World) (mg:Str->Option Value) (fa:Addr) (h:Heap),(K w.params).In h->h.Ns mainGlobals mg->mg d.name=some (.ref fa)->
   ∃fd:FuncData,(∀(s:Shared) (u:Value),BindsTo s fd ⟨[u],[]⟩ [("_law_script",u)])/\∀base:Heap,(K w.params).In base->base.Ns mainGlobals mg->FnOk l.prog w (K w.params) mg base CX0 5 fa fd ["_law_script"] (spOf (K w.params) XE0 DP.zN9)):
  PySem.W.WalkO q loose XP YP l.row.toRowW d [] (fun f vs=>PySem.call f vs):=
 L2.walk_of (n:=63) (k:=5) (x:="_law_script") (CX:=fun _=>CX0) (sp:=fun w=>spOf (K w.params) XE0 DP.zN9) hn (by decide) hdf ⟨rfl,by decide,by decide⟩ hY F (fun _ _ a ns hl _ hS=>zOd (DP.law_ok ns hl) hS) fun _ _ _ _ _ z=>z
end Law
open PySem PySem.W PyProof.Rows
set_option maxRecDepth 100000 in
theorem PySem.Challenge.cw_healfloor_k76_healing_papers_looked_at_holds : PySem.Challenge.rw_healfloor_k76_healing_papers_looked_at.Holds := by
 w_on;o_law;k_head;(case hw=>w_witness2)
 k_fill
 refine Law.walk (l:=PySem.Challenge.rw_healfloor_k76_healing_papers_looked_at) rfl rfl (fun w h Y=>PySem.W.kIn_of Y) ?F
 case F=>
  intro w mg fa h KX G hmg
  refine' Law.all_mk KX G hmg ?_ ?_ ?_ ?_ ?_ ?_ ?_ ?_ ?_ ?_ ?_ ?_ ?_ ?_ ?_ ?_ ?_ ?_ ?_ ?_ ?_ ?_ ?_ ?_ ?_ ?_ ?_ ?_ ?_ ?_ ?_ ?_ ?_ ?_ ?_ ?_ ?_ ?_ ?_ ?_ ?_ ?_ ?_ ?_ ?_ ?_ ?_ ?_ ?_ ?_ ?_ ?_ ?_ ?_ ?_ ?_ ?_ ?_ ?_ ?_ ?_ ?_ ?_ ?_ ?_ ?_ ?_ ?_ ?_ ?_ ?_ ?_ ?_ ?_ ?_ ?_ ?_ ?_ ?_ ?_ ?_ ?_ ?_ ?_ ?_ ?_ ?_ ?_
  all_goals (try k_is)
#print axioms PySem.Challenge.cw_healfloor_k76_healing_papers_looked_at_holds
