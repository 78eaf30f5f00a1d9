import PyProof.Rows.All
import Wide.All
import OpenK.AllK
import Wide.FinOn
import Lean
import PyProof.EqAt
import PyProof.EqKinds
import PyProof.TupleCall
import PyProof.NeKinds
import PyProof.ZipIter
import KE.KSortTup
import PyProof.TupleKey
import PyProof.SetKind
import PyProof.IsRules
import PyProof.Rows.SetFrom
import PyProof.Rows.SortShell
import KE.KDictList
import KE.KDictSum
import PyProof.MinMaxWalk
import PyProof.Rows.CallKwBuiltin
import PyProof.TupleIter
import KE.KIntText
import PyProof.Rows.StrWeight2
import PyProof.Rows.StrNews
import PyProof.StrWalks
import PyProof.FString5
import PyProof.SliceStr2
import PyProof.FitsReplace
import PyProof.Rows.StrSplitCount
import PySem.Str
import PyProof.Rows.SortRuns
import PyProof.SetRoads
import PyProof.Draws
import PyProof.EnumStmt
import PyProof.Rows.EnumRows
import KE.KSortKey
import PyProof.ReprRoads
import PyProof.StrBlockL
import PyProof.Rows.StrNews2
import PySem.Challenge.RW_healfloor_k41_islands_put_together
set_option bootstrap.genMatcherCode false
set_option genSizeOf false
set_option compiler.extract_closed false
local macro_rules|`(tactic|nofun)=>`(tactic|first|assumption|lia)
local macro_rules|`(tactic|trivial)=>`(tactic|first|exact Or.inl rfl|exact Or.inr rfl)
noncomputable abbrev xc:=@PySem.wpAny_bind
noncomputable abbrev xf:=@PySem.wpAny_pure
noncomputable abbrev xg:=@if_pos
noncomputable abbrev xh:=@if_neg
noncomputable abbrev xi:=@Nat.le_refl
noncomputable abbrev xj:=@PyProof.Rows.wpS_bind
noncomputable abbrev xk:=@PyProof.Rows.wpS_pure
noncomputable abbrev xl:=@PySem.Heap.lt_size
noncomputable abbrev xm:=@PySem.Heap.get?_push_of_some
noncomputable abbrev xn:=@List.mem_cons
noncomputable abbrev xo:=@if_true
noncomputable abbrev xp:=@Nat.le_trans
noncomputable abbrev xq:=@List.size_toArray
noncomputable abbrev xr:=@Nat.ne_of_lt
noncomputable abbrev xt:=@Bool.and_eq_true
noncomputable abbrev xu:=@List.getElem?_eq_getElem
noncomputable abbrev xv:=@List.append_assoc
noncomputable abbrev xw:=@Ne.symm
noncomputable abbrev xx:=@List.map_cons
noncomputable abbrev xy:=@decide_eq_false
noncomputable abbrev xA:=@List.mem_map
noncomputable abbrev xB:=@decide_eq_true
noncomputable abbrev xC:=@PySem.wpAny_holding
noncomputable abbrev xD:=@PySem.Heap.get?_push_size
noncomputable abbrev xE:=@Nat.lt_of_lt_of_le
noncomputable abbrev xF:=@List.length_map
noncomputable abbrev xG:=@List.length_append
noncomputable abbrev xH:=@List.length_cons
noncomputable abbrev xI:=@List.mem_append_right
noncomputable abbrev xJ:=@PySem.wpAny_setState_of
noncomputable abbrev xK:=@List.getElem?_eq_some_iff
noncomputable abbrev xM:=@List.getElem?_set_ne
noncomputable abbrev xN:=@Nat.le_of_lt
noncomputable abbrev xO:=@List.mem_cons_self
noncomputable abbrev xP:=@Option.some.inj
noncomputable abbrev xQ:=@if_false
noncomputable abbrev xR:=@PySem.wpAny_field
noncomputable abbrev xS:=@PySem.wpAny_call_entry
noncomputable abbrev xT:=@Array.getElem?_eq_getElem
noncomputable abbrev xU:=@PyProof.Rows.wpS_forRange
noncomputable abbrev xV:=@List.mem_append
noncomputable abbrev xW:=@Array.length_toList
noncomputable abbrev xX:=@PySem.wpAny_rule
noncomputable abbrev xY:=@Bool.false_ne_true
noncomputable abbrev xZ:=@PySem.sizeLine_eq
noncomputable abbrev x4:=@List.nodup_cons
noncomputable abbrev x8:=@Array.getElem?_eq_some_iff
noncomputable abbrev vc:=@PySem.F.called_set
noncomputable abbrev vd:=@List.mem_cons_of_mem
noncomputable abbrev ve:=@PySem.wpAny_newObj_type
noncomputable abbrev vf:=@List.getElem?_append_left
noncomputable abbrev vg:=@Nat.zero_le
noncomputable abbrev vh:=@List.lookup_cons
noncomputable abbrev vi:=@Bool.false_eq_true
noncomputable abbrev vj:=@Nat.lt_or_ge
noncomputable abbrev vk:=@List.mem_singleton
noncomputable abbrev vm:=@PyProof.Rows.wpS_mono
noncomputable abbrev vn:=@Nat.lt_irrefl
noncomputable abbrev vo:=@List.length_take
noncomputable abbrev vp:=@Array.toList_append
noncomputable abbrev vq:=@List.getElem?_set_self
noncomputable abbrev vt:=@PySem.wpAny_mono
noncomputable abbrev vv:=@PyProof.Rows.wpS_modify
noncomputable abbrev vw:=@List.getElem?_append_right
noncomputable abbrev vx:=@List.getElem?_map
noncomputable abbrev vy:=@PySem.Heap.size_push
noncomputable abbrev vz:=@PySem.wpAny_seqItems
noncomputable abbrev vA:=@List.take_append_drop
noncomputable abbrev vB:=@List.mem_range
noncomputable abbrev vC:=@List.mem_append_left
noncomputable abbrev vD:=@List.pairwise_cons
noncomputable abbrev vE:=@Array.getD_eq_getD_getElem?
noncomputable abbrev vF:=@PySem.Heap.SameBut.update
noncomputable abbrev vG:=@PySem.wpAny_Call_Name_kw
noncomputable abbrev vH:=@List.map_nil
noncomputable abbrev vI:=@PySem.wpAny_callSpecial?_slot
noncomputable abbrev vJ:=@PyProof.Rows.slot_tuple_getitem
noncomputable abbrev vK:=@List.all_eq_true
noncomputable abbrev vL:=@PySem.Heap.get?_update_self
noncomputable abbrev vM:=@List.mem_iff_getElem
noncomputable abbrev vN:=@List.not_mem_nil
noncomputable abbrev vO:=@Nat.zero_add
noncomputable abbrev vP:=@List.zip_cons_cons
noncomputable abbrev vQ:=@List.map_append
noncomputable abbrev vR:=@Nat.ne_of_gt
noncomputable abbrev vS:=@Nat.lt_trans
noncomputable abbrev vT:=@PySem.wpAny_isInstance
noncomputable abbrev vU:=@List.getElem?_eq_none
noncomputable abbrev vV:=@List.all_cons
noncomputable abbrev vW:=@PySem.wpAny_askSetting
noncomputable abbrev vX:=@PySem.wpAny_forIn_list
noncomputable abbrev vY:=@List.filterMap_cons
noncomputable abbrev vZ:=@PySem.wpAny_truthy_bool
noncomputable abbrev v3:=@PyProof.Rows.callWith_type1
noncomputable abbrev v5:=@Bool.eq_iff_iff
noncomputable abbrev v7:=@PySem.Calls.spliced_nil
noncomputable abbrev v8:=@PySem.Calls.spliced_cons
noncomputable abbrev v9:=@List.append_nil
noncomputable abbrev ua:=@List.length_drop
noncomputable abbrev ub:=@PySem.wpAny_specialOf
noncomputable abbrev uc:=@List.take_of_length_le
noncomputable abbrev ud:=@Option.map_some
noncomputable abbrev ue:=@List.map_map
noncomputable abbrev uf:=@List.filter_cons_of_pos
noncomputable abbrev ug:=@PySem.wpAny_passesOwn
noncomputable abbrev uh:=@PySem.codeAny_mono
noncomputable abbrev ui:=@List.getElem?_take_of_lt
noncomputable abbrev uj:=@List.take_sublist
noncomputable abbrev uk:=@PySem.wpAny_typeOf
noncomputable abbrev uo:=@Array.getElem?_toList
noncomputable abbrev uq:=@Nat.lt_succ_of_lt
noncomputable abbrev ur:=@Int.emod_lt_of_pos
noncomputable abbrev uu:=@Int.emod_nonneg
noncomputable abbrev uv:=@List.nil_append
noncomputable abbrev uw:=@PySem.wpAny_setEpoch_of
noncomputable abbrev uy:=@List.perm_append_comm
noncomputable abbrev uz:=@Bool.not_true
noncomputable abbrev uA:=@List.mem_filter
noncomputable abbrev uB:=@List.mem_filterMap
noncomputable abbrev uC:=@PySem.mem_of_lookup
noncomputable abbrev uD:=@List.find?_cons
noncomputable abbrev uE:=@beq_self_eq_true
noncomputable abbrev uF:=@Bool.eq_false_iff
noncomputable abbrev uG:=@List.drop_sublist
noncomputable abbrev uH:=@List.cons_append
noncomputable abbrev uI:=@PySem.Obj.data_mapFields
noncomputable abbrev uJ:=@PySem.wpAny_setField_rec
noncomputable abbrev uK:=@List.nodup_nil
noncomputable abbrev uL:=@List.cons.inj
noncomputable abbrev uM:=@Array.forIn_toList
noncomputable abbrev uN:=@decide_eq_decide
noncomputable abbrev uO:=@List.filter_cons_of_neg
noncomputable abbrev uP:=@PySem.wpAny_storeSet_of
noncomputable abbrev uQ:=@List.length_nil
noncomputable abbrev uR:=@List.forIn_cons
noncomputable abbrev uS:=@Bool.not_eq_true
noncomputable abbrev uT:=@List.mem_iff_getElem?
noncomputable abbrev uU:=@List.length_reverse
noncomputable abbrev uV:=@PySem.wpAny_pyIter_list
noncomputable abbrev uW:=@Nat.lt_trichotomy
noncomputable abbrev uX:=@Array.toList_extract
noncomputable abbrev uY:=@List.perm_middle
noncomputable abbrev uZ:=@PySem.codeAny_builtin
noncomputable abbrev u0:=@Nat.le_add_right
noncomputable abbrev u3:=@List.Perm.append_left
noncomputable abbrev u4:=@Array.toList_inj
noncomputable abbrev u5:=@List.dropLast_concat_getLast
noncomputable abbrev u6:=@PySem.F.slot_tuple_hash
noncomputable abbrev u7:=@PySem.wpAny_tupleItemsOf
noncomputable abbrev u9:=@Array.mem_toList_iff
noncomputable abbrev ya:=@PySem.W.kia_one
noncomputable abbrev yb:=@List.mem_of_getElem?
noncomputable abbrev yc:=@PySem.Heap.get?_update_other
noncomputable abbrev yd:=@PySem.builtinLookup_eq_fast
noncomputable abbrev ye:=@List.pairwise_iff_getElem
noncomputable abbrev yf:=@List.getElem?_cons_zero
noncomputable abbrev yg:=@PySem.wpAny_setEntries_of
noncomputable abbrev yh:=@PySem.F.slot_tuple_iterator_next
noncomputable abbrev yi:=@Array.toList_filterMap
noncomputable abbrev yj:=@PyProof.Rows.F.plain_set_update_loop
noncomputable abbrev yk:=@Array.eq_empty_of_size_eq_zero
noncomputable abbrev ym:=@PyProof.Rows.callWith_builtin1
noncomputable abbrev yn:=@List.eq_nil_of_length_eq_zero
noncomputable abbrev yo:=@List.eraseIdx_eq_take_drop_succ
set_option linter.all false
set_option maxRecDepth 100000
set_option Elab.async false
set_option maxHeartbeats 8000000
namespace L2
open PySem PySem.Spec PyProof.Rows
noncomputable abbrev Key:=Sum Int Str
noncomputable def zJ8:Key->Value->Bool
 | .inl k,v=>Value.isInt k v
 | .inr x,v=>Value.isStrOf x v
noncomputable def keyH (w:World):Key->Int
 | .inl k=>hashInt k
 | .inr x=>hashStr w x
theorem zAe:∀{k:Key}{v:Value},zJ8 k v=true->(∃i t,k=Sum.inl i/\v=Value.int i t)\/(∃x t,k=Sum.inr x/\v=Value.str x t)
 | .inl i,v,h=>by
  obtain⟨t,e⟩:=Value.isInt_shape (k:=i) (v:=v) h
  exact .inl ⟨i,t,rfl,e⟩
 | .inr x,v,h=>by
  obtain⟨t,e⟩:=Value.isStrOf_shape (x:=x) (v:=v) h
  exact .inr ⟨x,t,rfl,e⟩
theorem zLs (i:Int) (t:Tok):zJ8 (.inl i) (.int i t)=true:=by simp[zJ8,Value.isInt]
theorem zLr (x:Str) (t:Tok):zJ8 (.inr x) (.str x t)=true:=by simp[zJ8,Value.isStrOf]
theorem zWa (a b:Int):decide ((Sum.inl a:Key)=Sum.inl b)=(a == b):=by
 by_cases e:a=b
 ·subst e;simp
 ·have h:¬ (Sum.inl a:Key)=Sum.inl b:=fun q=>e (Sum.inl.inj q)
  rw[xy h]
  exact(beq_eq_false_iff_ne.mpr e).symm
theorem zW7 (a b:Str):decide ((Sum.inr a:Key)=Sum.inr b)=decide (a=b):=by
 by_cases e:a=b
 ·subst e;simp
 ·have h:¬ (Sum.inr a:Key)=Sum.inr b:=fun q=>e (Sum.inr.inj q)
  rw[xy h,xy e]
theorem zW9 (a:Int) (b:Str):decide ((Sum.inl a:Key)=Sum.inr b)=false:=xy (fun q=>nomatch q)
theorem zW8 (a:Str) (b:Int):decide ((Sum.inr a:Key)=Sum.inl b)=false:=xy (fun q=>nomatch q)
noncomputable def zAn (prog:Program) (w:World):PySem.KeyKind prog w Key where
 is:=zJ8
 hash:=keyH w
 inj:=fun v a b ha hb=>by
  rcases zAe ha with⟨i,t,rfl,rfl⟩|⟨x,t,rfl,rfl⟩
  ·rcases zAe hb with⟨j,u,rfl,e⟩|⟨y,u,rfl,e⟩
   ·injection e with e1 _;rw[e1]
   ·exact nomatch e
  ·rcases zAe hb with⟨j,u,rfl,e⟩|⟨y,u,rfl,e⟩
   ·exact nomatch e
   ·injection e with e1 _;rw[e1]
 byValue:=fun k v h=>by
  rcases zAe h with⟨i,t,rfl,rfl⟩|⟨x,t,rfl,rfl⟩ <;> rfl
 pyHash:=fun hv h=>by
  rcases zAe hv with⟨i,t,rfl,rfl⟩|⟨x,t,rfl,rfl⟩
  ·exact wpAny_pyHash_int h
  ·exact wpAny_pyHash_str h
 eqBool:=fun hu hv h=>by
  rcases zAe hu with⟨i,t,rfl,rfl⟩|⟨x,t,rfl,rfl⟩
  ·rcases zAe hv with⟨j,u,rfl,rfl⟩|⟨y,u,rfl,rfl⟩
   ·rw[zWa]at h;exact wpAny_eqBool_int h
   ·rw[zW9]at h;exact SeqAt.EqAt.int_str i t y u _ _ _ _ h
  ·rcases zAe hv with⟨j,u,rfl,rfl⟩|⟨y,u,rfl,rfl⟩
   ·rw[zW8]at h;exact SeqAt.EqAt.str_int x t j u _ _ _ _ h
   ·rw[zW7]at h;exact wpAny_eqBool_str h
 «strs»:=fun k x t v h=>by
  rcases zAe h with⟨i,u,rfl,e⟩|⟨y,u,rfl,e⟩
  ·exact nomatch e
  ·injection e with e1 _
   subst e1
   cases v <;> rfl
theorem zH4 (prog:Program) (w:World) (i:Int) (t:Tok):(zAn prog w).is (.inl i) (.int i t)=true:=zLs i t
theorem zH3 (prog:Program) (w:World) (x:Str) (t:Tok):(zAn prog w).is (.inr x) (.str x t)=true:=zLr x t
end L2
namespace L2
open PySem PySem.Spec PyProof.Rows
inductive V where
 | non|bl (b:Bool)|int (i:Int)|str (x:Str)|byt (b:Array UInt8)|flt (b:UInt64)|ref (a:Addr)|ty (n:String)
 deriving DecidableEq
noncomputable def RelV:V->Value->Prop
 | .non,u=>u=Value.none
 | .bl b,u=>u=Value.bool b
 | .int i,u=>∃t,u=Value.int i t
 | .str x,u=>∃t,u=Value.str x t
 | .byt b,u=>∃t,u=Value.bytes b t
 | .flt b,u=>∃t,u=Value.float b t
 | .ref a,u=>u=Value.ref a
 | .ty n,u=>u=Value.type n
noncomputable abbrev Vals:List V->List Value->Prop:=Paired RelV
theorem Vals.length {xs:List V}{us:List Value}(r:Vals xs us):xs.length=us.length:=Paired.length r
theorem Vals.get:∀{xs:List V}{us:List Value}{i:Nat}{x:V},Vals xs us->xs[i]?=some x->∃u,us[i]?=some u/\RelV x u
 | _,_,_,_,.nil,e=>by simp at e
 | _,_,0,_,.cons r _,e=>by simp at e;subst e;exact⟨_,rfl,r⟩
 | _,_,i+1,x,.cons _ t,e=>by
  obtain⟨u,h1,h2⟩:=Vals.get (i:=i) (x:=x) t (by simpa using e)
  exact⟨u,by simpa using h1,h2⟩
theorem Vals.append:∀{xs ys:List V}{us ws:List Value},Vals xs us->Vals ys ws->Vals (xs++ys) (us++ws)
 | _,_,_,_,.nil,s=>s
 | _,_,_,_,.cons r t,s=>.cons r (Vals.append t s)
theorem Vals.take:∀{xs:List V}{us:List Value}(n:Nat),Vals xs us->Vals (xs.take n) (us.take n)
 | _,_,0,_=>.nil
 | _,_,_+1,.nil=>.nil
 | _,_,n+1,.cons r t=>.cons r (Vals.take n t)
theorem Vals.drop:∀{xs:List V}{us:List Value}(n:Nat),Vals xs us->Vals (xs.drop n) (us.drop n)
 | _,_,0,r=>r
 | _,_,_+1,.nil=>.nil
 | _,_,n+1,.cons _ t=>Vals.drop n t
noncomputable def RelO:Option V->Option Value->Prop
 | some v,some u=>RelV v u
 | none,none=>True
 | _,_=>False
noncomputable def KV {κ:Type}:List (κ × V)->List (κ × Value)->Prop:=Paired fun(p:κ × V) (q:κ × Value)=>p.1=q.1/\RelV p.2 q.2
noncomputable def kV:Key->V
 | .inl i=>.int i
 | .inr x=>.str x
inductive HO where
 /-- a list -/
 | lst (xs:List V)
 /-- a tuple (never changes) -/
 | tup (xs:List V)
 /-- a dict whose keys are ints and texts;one whose keys are tuples of ints and texts (the empty one is both) -/
 | dK (kvs:List (Key × V))|dT (kvs:List (List Key × V))
 /-- a set of ints: its members,its size -/
 | set (S:Int->Bool) (n:Nat)
 /-- an instance of the class at C,its dict at dx,its attributes -/
 | ins (C dx:Addr) (fs:List (Str × V))
 /-- the dict of the instance at x -/
 | own (x:Addr)
 /-- the dict of an exception -/
 | xd (fs:List (Str × V))
 /-- a bound method,f of x -/
 | met (f x:Addr)
 /-- a range object lo,lo+1,.. below hi -/
 | rng (lo hi:Int)
 /-- a thing that is known to the object (the script;a dict while a loop walks it): read,never written while it is so -/
 | frz (o:Obj) (u:HO)
 /-- a code object's table -/
 | tbl (ps:Array Value)
 /-- any other thing,by what is true of its one object (a def of one's own: SetO a S n:=HO.ext fun h=>..) -/
 | ext (φ:Heap->Prop)
noncomputable abbrev Hp:=Addr->Option HO
noncomputable def upd (H:Hp) (a:Addr) (o:HO):Hp:=fun b=>if b=a then some o else H b
theorem zAd {H:Hp}{a:Addr}{o:HO}:upd H a o a=some o:=by unfold upd;rw[xg rfl]
theorem zA7 {H:Hp}{a b:Addr}{o:HO}(h:b≠a):upd H a o b=H b:=by unfold upd;rw[xh h]
theorem zA3 {H:Hp}{a b:Addr}{o:HO}(h:H a=some o) (h':H b=none):a≠b:=by
 intro e;subst e;rw[h]at h';cases h'
section
variable (P:Program) (w:World)
noncomputable def ObjOk (H:Hp) (h:Heap) (a:Addr):HO->Prop
 | .lst xs=>xs.length<=sizeLine/\∃(its:List Value) (n:Nat),Vals xs its/\h.get? a=some { cls:=.type "list",data:=.seq its.toArray n }
 | .tup xs=>xs.length<=sizeLine/\∃its:List Value,Vals xs its/\IsTup h a its.toArray
 | .dK kvs=>kvs.length<=sizeLine/\(a == sysModules)=false/\∃vs,KV kvs vs/\h.DictOf (zAn P w) a vs
 | .dT kvs=>kvs.length<=sizeLine/\(a == sysModules)=false/\∃xs:List (List Key × Addr × Value),
   Paired (fun(p:List Key × V) (q:List Key × Addr × Value)=>p.1=q.1/\H q.2.1=some (.tup (p.1.map kV))/\RelV p.2 q.2.2) kvs xs /\
   ∃o es ep,h.get? a=some o/\o.ExactDict/\o.data=.dict es ep/\es.toList=xs.map (entryOfKey (tupleKind (zAn P w)))/\(xs.map (·.1)).Nodup
 | .set S n=>h.SetOf (intKind P w) a S n
 | .ins C dx fs=>H dx=some (.own a)/\fs.length<=1000/\dx≠a/\h.get? a=some (PySem.W.instObj C dx) /\
   ∃mA,h.Ns1 dx mA/\(∀f,RelO (fs.lookup f) (mA f))/\PySem.Within mA (fs.map (·.1))
 | .own _=>∃o,h.get? a=some o
 | .xd fs=>∃mA,h.Ns1 a mA/\∀f,RelO (fs.lookup f) (mA f)
 | .rng lo hi=>∃t u v,h.get? a=some { cls:=.type "range",data:=.fields #[.int lo t,.int hi u,.int 1 v] }
 | .frz o u=>h.get? a=some o/\ObjOk H h a u
 | .tbl ps=>h.get? a=some { cls:=.none,data:=.fields ps }
 | .met f x=>h.get? a=some (PySem.W.methodObj (.ref f) (.ref x))
 | .ext φ=>φ h/\(∃o,h.get? a=some o)/\∀h1 h2:Heap,φ h1->(∀o,h1.get? a=some o->h2.get? a=some o)->φ h2
noncomputable def HOk (H:Hp) (h:Heap):Prop:=∀a o,H a=some o->ObjOk P w H h a o
end
section
variable {P:Program}{w:World}{H H':Hp}{h h':Heap}{a:Addr}{o:HO}
theorem ObjOk.lt (x:ObjOk P w H h a o):a<h.objs.size:=by
 cases o with
 | lst xs=>obtain⟨_,_,_,_,e⟩:=x;exact xl e
 | tup xs=>obtain⟨_,_,_,p⟩:=x;exact p.lt
 | dK kvs=>obtain⟨_,_,_,_,o,_,_,e,_⟩:=x;exact xl e
 | dT kvs=>obtain⟨_,_,_,_,o,_,_,e,_⟩:=x;exact xl e
 | set S n=>obtain⟨o,_,_,_,e,_⟩:=x;exact xl e
 | ins C dx fs=>obtain⟨_,_,_,e,_⟩:=x;exact xl e
 | own y=>obtain⟨_,e⟩:=x;exact xl e
 | xd fs=>obtain⟨_,⟨_,_,_,e,_⟩,_⟩:=x;exact xl e
 | rng lo hi=>obtain⟨_,_,_,e⟩:=x;exact xl e
 | frz ob u=>obtain⟨e,_⟩:=x;exact xl e
 | tbl ps=>exact xl (show h.get? a=some _ from x)
 | met f y=>exact xl (show h.get? a=some _ from x)
 | ext φ=>obtain⟨_,⟨_,e⟩,_⟩:=x;exact xl e
theorem Paired.mapP {α β:Type}{F G:α->β->Prop}:∀{l₁:List α}{l₂:List β},Paired F l₁ l₂->(∀a b,F a b->G a b)->Paired G l₁ l₂
 | _,_,.nil,_=>.nil
 | _,_,.cons r t,f=>.cons (f _ _ r) (Paired.mapP t f)
theorem ObjOk.stay (x:ObjOk P w H h a o) (k:∀b u,(b=a\/H b=some (.own a))->h.get? b=some u->h'.get? b=some u)
  (ho:∀b,H b=some (.own a)->H' b=some (.own a)) (ht:∀b xs,H b=some (.tup xs)->H' b=some (.tup xs)):ObjOk P w H' h' a o:=by
 induction o with
 | lst xs=>obtain⟨z,its,n,r,e⟩:=x;exact⟨z,its,n,r,k _ _ (.inl rfl) e⟩
 | tup xs=>obtain⟨z,its,r,ob,e,c⟩:=x;exact⟨z,its,r,ob,k _ _ (.inl rfl) e,c⟩
 | dK kvs=>obtain⟨z,y,vs,r,ob,es,ep,e,c⟩:=x;exact⟨z,y,vs,r,ob,es,ep,k _ _ (.inl rfl) e,c⟩
 | dT kvs=>
  obtain⟨z,y,xs,r,ob,es,ep,e,c⟩:=x
  exact⟨z,y,xs,Paired.mapP r fun p q z=>⟨z.1,ht _ _ z.2.1,z.2.2⟩,ob,es,ep,k _ _ (.inl rfl) e,c⟩
 | set S n=>obtain⟨ob,es,ep,t,e,c⟩:=x;exact⟨ob,es,ep,t,k _ _ (.inl rfl) e,c⟩
 | ins C dx fs=>
  obtain⟨d,z,ne,e,mA,⟨od,es,ep,e2,c⟩,r⟩:=x
  exact⟨ho _ d,z,ne,k _ _ (.inl rfl) e,mA,⟨od,es,ep,k _ _ (.inr d) e2,c⟩,r⟩
 | own y=>obtain⟨ob,e⟩:=x;exact⟨ob,k _ _ (.inl rfl) e⟩
 | xd fs=>obtain⟨mA,⟨od,es,ep,e,c⟩,r⟩:=x;exact⟨mA,⟨od,es,ep,k _ _ (.inl rfl) e,c⟩,r⟩
 | rng lo hi=>obtain⟨t,u,v,e⟩:=x;exact⟨t,u,v,k _ _ (.inl rfl) e⟩
 | frz ob u ih=>obtain⟨e,q⟩:=x;exact⟨k _ _ (.inl rfl) e,ih q⟩
 | tbl ps=>
  have e:h.get? a=some { cls:=.none,data:=.fields ps }:=x
  show h'.get? a=some { cls:=.none,data:=.fields ps }
  exact k a _ (.inl rfl) e
 | met f y=>
  have e:h.get? a=some (PySem.W.methodObj (.ref f) (.ref y)):=x
  show h'.get? a=some (PySem.W.methodObj (.ref f) (.ref y))
  exact k a _ (.inl rfl) e
 | ext φ=>obtain⟨p,⟨o,e⟩,st⟩:=x;exact⟨st _ _ p fun o q=>k _ _ (.inl rfl) q,⟨o,k _ _ (.inl rfl) e⟩,st⟩
theorem HOk.lt (x:HOk P w H h) (e:H a=some o):a<h.objs.size:=(x a o e).lt
theorem HOk.fresh (x:HOk P w H h) (e:h.objs.size<=a):H a=none:=by
 cases q:H a with
 | none=>rfl
 | some u=>exact absurd (xE (x.lt q) e) (vn _)
theorem HOk.kept (x:HOk P w H h) (k:∀b u,h.get? b=some u->h'.get? b=some u):HOk P w H h':=fun a o e=>
 (x a o e).stay (fun b u _ q=>k b u q) (fun _ q=>q) fun _ _ q=>q
theorem HOk.laid (x:HOk P w H h) (k:∀b u,h.get? b=some u->h'.get? b=some u) (hp:h.objs.size<=a) (new:ObjOk P w (upd H a o) h' a o):HOk P w (upd H a o) h':=fun b u e=>by
 have hn:=x.fresh hp
 by_cases hb:b=a
 ·subst hb;rw[zAd]at e;cases e;exact new
 ·rw[zA7 hb]at e
  exact(x b u e).stay (fun c v _ q=>k c v q) (fun c q=>by rw[zA7 (zA3 q hn)];exact q) fun c xs q=>by rw[zA7 (zA3 q hn)];exact q
end
noncomputable def Rd (H:Hp) (a:Addr) (u:HO):Prop:=H a=some u\/∃o,H a=some (.frz o u)
theorem Rd.ok {P:Program}{w:World}{H:Hp}{h:Heap}{a:Addr}{u:HO}(r:Rd H a u) (x:HOk P w H h):ObjOk P w H h a u:=by
 rcases r with r|⟨o,r⟩
 ·exact x a u r
 ·obtain⟨_,q⟩:=x a _ r
  exact q
noncomputable def Mut:Option HO->Prop
 | some (.lst _)=>True
 | some (.dK _)=>True
 | some (.dT _)=>True
 | some (.set _ _)=>True
 | some (.ins _ _ _)=>True
 | some (.ext _)=>True
 | _=>False
section
variable {P:Program}{w:World}{H:Hp}{h h':Heap}{x e:Addr}{o':HO}
theorem HOk.write (ok:HOk P w H h) (mu:Mut (H x)) (he:e=x\/H e=some (.own x)) (k:∀b u,b≠e->h.get? b=some u->h'.get? b=some u) (heo:∃u,h'.get? e=some u)
  (new:ObjOk P w (upd H x o') h' x o'):HOk P w (upd H x o') h':=fun b u q=>by
 have nown:∀c y,H c=some (.own y)->c≠x:=fun c y r z=>by subst z;rw[r]at mu;exact mu
 have ntup:∀c xs,H c=some (.tup xs)->c≠x:=fun c xs r z=>by subst z;rw[r]at mu;exact mu
 by_cases hb:b=x
 ·subst hb;rw[zAd]at q;cases q;exact new
 ·rw[zA7 hb]at q
  by_cases hbe:b=e
  ·have q':H b=some (.own x):=by
    rcases he with z|z
    ·exact absurd (hbe.trans z) hb
    ·rw[hbe];exact z
   rw[q]at q';cases q'
   obtain⟨v,hv⟩:=heo
   exact⟨v,by rw[hbe];exact hv⟩
  ·refine(ok b u q).stay (fun c v hc r=>k c v ?_ r) (fun c r=>by rw[zA7 (nown c b r)];exact r) fun c xs r=>by rw[zA7 (ntup c xs r)];exact r
   rcases hc with rfl|hc
   ·exact hbe
   ·rintro rfl
    rcases he with z|z
    ·exact nown c b hc z
    ·rw[hc]at z;cases z;exact hb rfl
end
structure Un (fs ex:List Addr) (H H':Hp) (h h':Heap):Prop where
 keep:∀b o,h.get? b=some o->H b=none->b ∉ fs->b ∉ ex->h'.get? b=some o
 slot:∀b o,h.get? b=some o->H b=none->b∈fs->b ∉ ex->∃sl,h'.get? b=some { o with slots:=sl }
 free:∀b o,h.get? b=some o->H b=none->b ∉ ex->H' b=none
 there:∀b o,h.get? b=some o->b ∉ ex->∃o',h'.get? b=some o'
 tups:∀b xs,H b=some (.tup xs)->H' b=some (.tup xs)
 frzs:∀b o u,H b=some (.frz o u)->H' b=some (.frz o u)
 tbls:∀b ps,H b=some (.tbl ps)->∃more,H' b=some (.tbl (ps++more))
section
variable {fs fs' ex ex':List Addr}{H H1 H2:Hp}{h h1 h2 h':Heap}{a x e:Addr}{o:HO}
theorem Un.any (u:Un fs ex H H1 h h1) {b:Addr}{ob:Obj}(q:h.get? b=some ob) (n:H b=none) (hx:b ∉ ex):∃sl,h1.get? b=some { ob with slots:=sl }:=by
 by_cases hb:b∈fs
 ·exact u.slot b ob q n hb hx
 ·exact⟨ob.slots,u.keep b ob q n hb hx⟩
theorem Un.kept (k:∀b u,h.get? b=some u->h'.get? b=some u):Un fs ex H H h h':=
 ⟨fun b ob q _ _ _=>k b ob q,fun b ob q _ _ _=>⟨ob.slots,k b ob q⟩,fun _ _ _ n _=>n,fun b ob q _=>⟨ob,k b ob q⟩,fun _ _ q=>q,fun _ _ _ q=>q,fun _ ps q=>⟨#[],by rw[q];simp⟩⟩
theorem Un.refl:Un fs ex H H h h:=Un.kept fun _ _ q=>q
theorem Un.laid (k:∀b u,h.get? b=some u->h'.get? b=some u) (hp:h.objs.size<=a) (hn:H a=none):Un fs ex H (upd H a o) h h' where
 keep:=fun b u q _ _ _=>k b u q
 slot:=fun b u q _ _ _=>⟨u.slots,k b u q⟩
 free:=fun b u q n _=>by rw[zA7 (xr (xE (xl q) hp))];exact n
 there:=fun b u q _=>⟨u,k b u q⟩
 tups:=fun b xs q=>by rw[zA7 (zA3 q hn)];exact q
 frzs:=fun b u xs q=>by rw[zA7 (zA3 q hn)];exact q
 tbls:=fun b ps q=>⟨#[],by rw[zA7 (zA3 q hn),q];simp⟩
theorem Un.write (mu:Mut (H x)) (he:e=x\/H e=some (.own x)) (k:∀b u,b≠e->h.get? b=some u->h'.get? b=some u) (heo:∃u,h'.get? e=some u):Un fs ex H (upd H x o) h h':=by
 have hx:∀b,H b=none->b≠x:=fun b n z=>by subst z;rw[n]at mu;exact mu
 have hb:∀b,H b=none->b≠e:=fun b n z=>by
  subst z
  rcases he with r|r
  ·exact hx b n r
  ·rw[n]at r;cases r
 have hm:∀b u,H b=some u->¬ Mut (some u)->b≠x:=fun b u q nm z=>by subst z;rw[q]at mu;exact nm mu
 refine⟨fun b u q n _ _=>k b u (hb b n) q,fun b u q n _ _=>⟨u.slots,k b u (hb b n) q⟩,fun b u q n _=>by rw[zA7 (hx b n)];exact n,fun b u q _=>?_,
  fun b xs q=>by rw[zA7 (hm b _ q fun z=>z)];exact q,fun b u xs q=>by rw[zA7 (hm b _ q fun z=>z)];exact q,fun b ps q=>⟨#[],by rw[zA7 (hm b _ q fun z=>z),q];simp⟩⟩
 by_cases hbe:b=e
 ·subst hbe;exact heo
 ·exact⟨u,k b u hbe q⟩
end
noncomputable def trk (h:Heap) (H:Hp):List Addr:=(List.range h.objs.size).filter fun a=>(H a).isSome
noncomputable def hidT (h:Heap) (H:Hp):Heap:=PySem.W.hideAll h (trk h H)
theorem zM3 (h:Heap) (H:Hp):(hidT h H).objs.size=h.objs.size:=PySem.W.hideAll_size _ _
theorem zP6 {h:Heap}{H:Hp}{b:Addr}{o:Obj}(e:h.get? b=some o) (n:H b=none):(hidT h H).get? b=some o:=
 PySem.W.hideAll_get _ e fun hm=>by
  have q:(H b).isSome=true:=(uA.mp hm).2
  rw[n]at q;simp at q
theorem zSi {h:Heap}{H:Hp}{b:Addr}{o:Obj}(e:(hidT h H).get? b=some o):h.get? b=some o/\H b=none:=by
 have e':h.get? b=some o:=PySem.W.of_hideAll (trk h H) e
 refine⟨e',?_⟩
 cases q:H b with
 | none=>rfl
 | some x=>
  have hm:b∈trk h H:=uA.mpr ⟨vB.mpr (xl e'),by simp[q]⟩
  have z:(hidT h H).get? b=none:=PySem.W.hideAll_none (trk h H) hm
  rw[z]at e;cases e
noncomputable def zU5 (g h:Heap) (L:Addr):List (Addr × Obj):=(List.range h.objs.size).filterMap fun a=>if a=L\/(g.get? a).isSome=true then none else(h.get? a).map fun o=>(a,o)
noncomputable def rest (g h:Heap) (L d:Addr):List (Addr × Obj):=(zU5 g h L).filter fun p=>decide (p.1≠d)
end L2
namespace L2
open PySem PySem.Spec PyProof.Rows
structure Mod (K:PySem.W.Frag) (mg:Str->Option Value) (base:Heap):Prop where
 kin:K.In base
 glob:base.Ns mainGlobals mg
 blt:∃mb,base.Ns builtinsNs mb/\∀x:Str,x≠"__name__"->mb x=bootBuiltins x
 nolimit:base.NoLimit
/-- the context: a def's body (or a comprehension's block) running. base: fixed through the whole law;s₀,H₀: the entry;outer: the frames whose slots others may change (a def's callers);stack: all frames that run;
   ex: iterators that were made ahead of the entry and are walked here (a comprehension's);fn: the names whose cells were made at the entry (a def: all;a comprehension's block: its own);calm: not within an except suite;pn: pins that every state bears;xe: what is wanted of an exception that leaves the code -/
structure Cx where
  prog:Program
  w:World
  K:PySem.W.Frag
  mg:Str->Option Value
  base:Heap
  A:Around
  N:List Str
  s₀:Shared
  H₀:Hp
  env:Env
  outer:List Env
  stack:List Env
  ex:List Addr
  fn:Str->Bool
  calm:Bool
  pn:List (Addr × Obj)
  xe:Value->Shared->Prop
noncomputable def frs (l:List Env):List Addr:=l.filterMap (·.frame)
noncomputable abbrev Cx.fs (X:Cx):List Addr:=frs X.outer
noncomputable def Vis (sc:Scope) (x:Str):Prop:=sc.names.lookup x=some .local\/sc.names.lookup x=some .cell\/sc.names.lookup x=some .free
noncomputable def Loc (sc:Scope) (x:Str):Prop:=sc.names.lookup x=some .local\/sc.names.lookup x=some .cell
noncomputable def Look (env:Env) (h:Heap) (m:Str->Option Value) (x:Str) (u:Value):Prop:=
 (env.kindOf x=some .local/\m x=some u)\/((env.kindOf x=some .cell\/env.kindOf x=some .free)/\∃c,env.cells.lookup x=some c/\h.IsCell c (some u))
structure Cx.Ok (X:Cx):Prop where
 mod:Mod X.K X.mg X.base
 kind:X.env.scope.kind=.function
 glob:X.env.globals=mainGlobals
 blt:X.env.builtins=builtinsNs
 above:X.s₀.heap.objs.size<=X.env.locals
 inj:∀x y c,X.env.cells.lookup x=some c->X.env.cells.lookup y=some c->x=y
 has:∀x,(X.env.kindOf x=some .cell\/X.env.kindOf x=some .free)->∃c,X.env.cells.lookup x=some c
 cab:∀x c,X.fn x=true->X.env.cells.lookup x=some c->X.s₀.heap.objs.size<=c
 hd:X.calm=true->X.A.handled=none
 frames:X.A.frames=some X.stack
 stk:X.stack=X.outer\/(X.stack=X.env::X.outer/\X.env.frame=some X.env.locals)
 exf:∀b∈X.ex,b≠X.env.locals/\∀x c,X.env.cells.lookup x=some c->c≠b
 bs:∀b o,X.base.get? b=some o->X.s₀.heap.get? b=some o/\X.H₀ b=none
 bsz:X.base.objs.size<=X.s₀.heap.objs.size
 noex:∀b o,X.base.get? b=some o->b ∉ X.ex
 exfs:∀b∈X.ex,b ∉ X.fs
 funs:X.s₀.heap.FunFrames X.base X.outer
 frf:∀b∈X.fs,X.H₀ b=none
 gds:X.A.guards=some []
structure Inv (X:Cx) (pins:List (Addr × Obj)) (σ:List (Option V)) (H:Hp) (s:Shared):Prop where
 ok:X.Ok
 os:s.os=X.s₀.os
 bare:AllBare s.gens
 base:Un X.fs X.ex X.H₀ H X.s₀.heap s.heap
 loc:∃m,s.heap.Ns X.env.locals m/\∀(i:Nat) (x:Str) (v:V),X.N[i]?=some x->σ[i]?=some (some v)->Vis X.env.scope x->∃u,RelV v u/\Look X.env s.heap m x u
 cell:∀x c,X.env.cells.lookup x=some c->∃v,s.heap.IsCell c v
 free:H X.env.locals=none
 freeC:∀x c,X.env.cells.lookup x=some c->H c=none
 pin:∀p∈X.pn++pins,s.heap.get? p.1=some p.2/\H p.1=none/\p.1≠X.env.locals/\p.1 ∉ X.fs/\∀v,p.2.data≠.cell v
 hok:HOk X.prog X.w H s.heap
 len:σ.length=X.N.length
section
variable {X:Cx}{pins:List (Addr × Obj)}{σ:List (Option V)}{H H':Hp}{s:Shared}{h':Heap}
theorem Cx.Ok.nofr (ok:X.Ok) {b:Addr}{o:Obj}(e:X.base.get? b=some o):b ∉ X.fs:=fun hb=>by
 have:=(ok.funs.mem hb).1
 rw[e]at this;cases this
theorem Inv.bs (I:Inv X pins σ H s):∀b o,X.base.get? b=some o->s.heap.get? b=some o/\H b=none:=fun b o e=>
 ⟨I.base.keep b o (I.ok.bs b o e).1 (I.ok.bs b o e).2 (I.ok.nofr e) (I.ok.noex b o e),I.base.free b o (I.ok.bs b o e).1 (I.ok.bs b o e).2 (I.ok.noex b o e)⟩
theorem Inv.bk (I:Inv X pins σ H s):∀b o,X.base.get? b=some o->s.heap.get? b=some o:=fun b o e=>(I.bs b o e).1
theorem Inv.mod (I:Inv X pins σ H s):Mod X.K X.mg X.base:=I.ok.mod
theorem Inv.kIn (I:Inv X pins σ H s):X.K.In s.heap:=I.ok.mod.kin.keeps I.bk
theorem Inv.lt (I:Inv X pins σ H s):X.env.locals<s.heap.objs.size:=let ⟨_,hn,_⟩:=I.loc;hn.lt
theorem Inv.sz (I:Inv X pins σ H s):X.s₀.heap.objs.size<=s.heap.objs.size:=xp I.ok.above (xN I.lt)
theorem Inv.nofs (I:Inv X pins σ H s) {a:Addr}(h:s.heap.objs.size<=a):a ∉ X.fs:=fun hb=>by
 obtain⟨_,o,ho,_⟩:=I.ok.funs.mem hb
 exact absurd (xE (xl ho) (xp I.sz h)) (vn _)
theorem Inv.cne (I:Inv X pins σ H s):∀x c,X.env.cells.lookup x=some c->c≠X.env.locals:=fun x c e z=>by
 obtain⟨v,o,ho,hd⟩:=I.cell x c e
 obtain⟨m,⟨o',es,ep,ho',hd',_⟩,_⟩:=I.loc
 rw[z,ho']at ho;cases ho;rw[hd']at hd;cases hd
theorem Inv.funs (I:Inv X pins σ H s):s.heap.FunFrames X.base X.outer:=by
 have all:∀(l:List Env),(∀b∈frs l,b∈X.fs)->X.s₀.heap.FunFrames X.base l->s.heap.FunFrames X.base l:=by
  intro l
  induction l with
  | nil=>intro _ _;trivial
  | cons env r ih=>
   intro hs hl
   obtain⟨hk,⟨L,o,hf,hn,ho,hd⟩,hr⟩:=hl
   have hL:L∈X.fs:=hs L (by unfold frs;rw[vY,hf];exact xO)
   obtain⟨sl,e⟩:=I.base.slot L o ho (I.ok.frf L hL) hL fun z=>I.ok.exfs L z hL
   exact⟨hk,⟨L,_,hf,hn,e,hd⟩,ih (fun b hb=>hs b (by unfold frs;rw[vY,hf];exact vd _ hb)) hr⟩
 exact all X.outer (fun _ hb=>hb) I.ok.funs
theorem Inv.stack (I:Inv X pins σ H s):s.heap.FunFrames X.base X.stack:=by
 rcases I.ok.stk with e|⟨e,hf⟩
 ·rw[e];exact I.funs
 ·rw[e]
  obtain⟨m,hn,_⟩:=I.loc
  refine .cons (by rw[I.ok.kind];decide) hf hn ?_ I.funs
  exact Heap.get?_none_of_le (xp I.ok.bsz I.ok.above)
theorem Inv.stkSub (I:Inv X pins σ H s):∀b∈frs X.stack,b∈X.env.locals::X.fs:=fun b hb=>by
 rcases I.ok.stk with e|⟨e,hf⟩
 ·rw[e]at hb;exact vd _ hb
 ·rw[e]at hb
  unfold frs at hb
  rw[vY,hf]at hb
  exact hb
theorem Inv.stkFree (I:Inv X pins σ H s):∀b∈frs X.stack,H b=none:=fun b hb=>by
 rcases xn.mp (I.stkSub b hb)with e|hb
 ·rw[e];exact I.free
 ·obtain⟨_,o,ho,_⟩:=I.ok.funs.mem hb
  exact I.base.free b o ho (I.ok.frf b hb) fun z=>I.ok.exfs b z hb
theorem Inv.step {g':Array GenState}{t':Nat}{d':Drawn}{ch:List Addr}(I:Inv X pins σ H s)
  (hch:∀b∈ch,(b∈X.ex\/X.s₀.heap.objs.size<=b)/\b≠X.env.locals/\(∀x c,X.env.cells.lookup x=some c->c≠b)/\∀p∈X.pn++pins,p.1≠b)
  (keep:∀b o,b≠X.env.locals->b ∉ X.fs->b ∉ ch->s.heap.get? b=some o->H b=none->h'.get? b=some o)
  (slot:∀b o,b≠X.env.locals->b∈X.fs->b ∉ ch->s.heap.get? b=some o->H b=none->∃sl,h'.get? b=some { o with slots:=sl }) (free:∀b o,b ∉ ch->s.heap.get? b=some o->H b=none->H' b=none)
  (there:∀b o,b ∉ ch->s.heap.get? b=some o->∃o',h'.get? b=some o')
  (tups:∀b xs,H b=some (.tup xs)->H' b=some (.tup xs)) (frzs:∀b o u,H b=some (.frz o u)->H' b=some (.frz o u)) (tbls:∀b ps,H b=some (.tbl ps)->∃more,H' b=some (.tbl (ps++more)))
  (ns:∀m,s.heap.Ns X.env.locals m->h'.Ns X.env.locals m) (hok:HOk X.prog X.w H' h') (hg:AllBare g'):
  Inv X pins σ H' { s with heap:=h',gens:=g',drawn:=d',toks:=t' }:=by
 have neL:∀b o,X.s₀.heap.get? b=some o->b≠X.env.locals:=fun b o e=>xr (xE (xl e) I.ok.above)
 have neC:∀b o,X.s₀.heap.get? b=some o->b ∉ X.ex->b ∉ ch:=fun b o e hx hb=>by
  rcases(hch b hb).1 with z|z
  ·exact hx z
  ·exact absurd (xE (xl e) z) (vn _)
 have cellK:∀x c,X.env.cells.lookup x=some c->∀v,s.heap.IsCell c v->h'.IsCell c v:=fun x c e v hq1=>by
  obtain⟨o,ho,hd⟩:=hq1
  have nch:c ∉ ch:=fun z=>(hch c z).2.2.1 x c e rfl
  by_cases hc:c∈X.fs
  ·obtain⟨sl,q⟩:=slot c o (I.cne x c e) hc nch ho (I.freeC x c e)
   exact⟨_,q,hd⟩
  ·exact⟨o,keep c o (I.cne x c e) hc nch ho (I.freeC x c e),hd⟩
 refine⟨I.ok,I.os,hg,⟨fun b o e n hb hx=>?_,fun b o e n hb hx=>?_,fun b o e n hx=>?_,fun b o e hx=>?_,fun b xs e=>tups b xs (I.base.tups b xs e),fun b o xs e=>frzs b o xs (I.base.frzs b o xs e),fun b ps e=>?_⟩,?_,fun x c e=>?_,?_,fun x c e=>?_,fun p hp=>?_,hok,I.len⟩
 ·exact keep b o (neL b o e) hb (neC b o e hx) (I.base.keep b o e n hb hx) (I.base.free b o e n hx)
 ·obtain⟨sl,e1⟩:=I.base.slot b o e n hb hx
  obtain⟨sl',e2⟩:=slot b _ (neL b o e) hb (neC b o e hx) e1 (I.base.free b o e n hx)
  exact⟨sl',e2⟩
 ·obtain⟨o',e1⟩:=I.base.there b o e hx
  exact free b o' (neC b o e hx) e1 (I.base.free b o e n hx)
 ·obtain⟨o',e1⟩:=I.base.there b o e hx
  exact there b o' (neC b o e hx) e1
 ·obtain⟨m1,e1⟩:=I.base.tbls b ps e
  obtain⟨m2,e2⟩:=tbls b _ e1
  exact⟨m1++m2,by rw[e2,Array.append_assoc]⟩
 ·obtain⟨m,hn,hl⟩:=I.loc
  refine⟨m,ns m hn,fun i x v e1 e2 e3=>?_⟩
  obtain⟨u,r,l⟩:=hl i x v e1 e2 e3
  refine⟨u,r,?_⟩
  rcases l with l|⟨k,c,e,z⟩
  ·exact .inl l
  ·exact .inr ⟨k,c,e,cellK x c e _ z⟩
 ·obtain⟨v,z⟩:=I.cell x c e
  exact⟨v,cellK x c e v z⟩
 ·obtain⟨m,⟨o,_,_,ho,_⟩,_⟩:=I.loc
  exact free _ o (fun z=>(hch _ z).2.1 rfl) ho I.free
 ·obtain⟨v,o,ho,hd⟩:=I.cell x c e
  exact free c o (fun z=>(hch c z).2.2.1 x c e rfl) ho (I.freeC x c e)
 ·obtain⟨e,n,ne,nf,d⟩:=I.pin p hp
  have nch:p.1 ∉ ch:=fun z=>(hch p.1 z).2.2.2 p hp rfl
  exact⟨keep p.1 p.2 ne nf nch e n,free p.1 p.2 nch e n,ne,nf,d⟩
theorem Inv.un {t':Nat}(I:Inv X pins σ H s) (u:Un X.fs [] H H' s.heap h') (hok:HOk X.prog X.w H' h'):Inv X pins σ H' { s with heap:=h',toks:=t' }:=by
 obtain⟨m,⟨o,es,ep,ho,r⟩,_⟩:=id I.loc
 obtain⟨sl,hL⟩:=u.any ho I.free (by simp)
 exact I.step (g':=s.gens) (d':=s.drawn) (ch:=[]) (fun _ z=>nomatch z) (fun b o _ hb _ e n=>u.keep b o e n hb (by simp)) (fun b o _ hb _ e n=>u.slot b o e n hb (by simp)) (fun b o _ e n=>u.free b o e n (by simp)) (fun b o _ e=>u.there b o e (by simp)) u.tups u.frzs u.tbls (fun m' hm=>by
  obtain⟨o',es',ep',ho',r'⟩:=hm
  rw[ho]at ho';cases ho'
  exact⟨_,es',ep',hL,r'⟩) hok I.bare
theorem Inv.call {g':Array GenState}{t':Nat}{d':Drawn}{ch:List Addr}(I:Inv X pins σ H s) (u:Un (frs X.stack) ch H H' s.heap h') (hok:HOk X.prog X.w H' h') (hg:AllBare g')
  (hch:∀b∈ch,(b∈X.ex\/X.s₀.heap.objs.size<=b)/\b≠X.env.locals/\(∀x c,X.env.cells.lookup x=some c->c≠b)/\∀p∈X.pn++pins,p.1≠b):
  Inv X pins σ H' { s with heap:=h',gens:=g',drawn:=d',toks:=t' }:=by
 obtain⟨m,⟨o,es,ep,ho,r⟩,_⟩:=id I.loc
 obtain⟨sl,hL⟩:=u.any ho I.free fun z=>(hch _ z).2.1 rfl
 exact I.step (ch:=ch) hch (fun b o hL hb hc e n=>u.keep b o e n (fun z=>(xn.mp (I.stkSub b z)).elim hL hb) hc) (fun b o _ _ hc e n=>u.any e n hc) (fun b o hc e n=>u.free b o e n hc) (fun b o hc e=>u.there b o e hc) u.tups u.frzs u.tbls (fun m' hm=>by
  obtain⟨o',es',ep',ho',r'⟩:=hm
  rw[ho]at ho';cases ho'
  exact⟨_,es',ep',hL,r'⟩) hok hg
theorem Inv.turned {t':Nat}{it:Addr}(I:Inv X pins σ H s) (k:∀b o,b≠it->s.heap.get? b=some o->h'.get? b=some o) (hn:H it=none) (hL:it≠X.env.locals)
  (h1:it∈X.ex\/X.s₀.heap.objs.size<=it) (h2:∀x c,X.env.cells.lookup x=some c->c≠it) (h3:∀p∈X.pn++pins,p.1≠it):Inv X pins σ H { s with heap:=h',toks:=t' }:=by
 have nit:∀b u,H b=some u->b≠it:=fun b u e z=>by rw[z,hn]at e;cases e
 refine I.step (g':=s.gens) (d':=s.drawn) (ch:=[it]) (fun b hb=>?_) (fun b o _ _ hc e _=>k b o (fun z=>hc (by simp[z])) e) (fun b o _ _ hc e _=>⟨o.slots,k b o (fun z=>hc (by simp[z])) e⟩) (fun _ _ _ _ n=>n)
  (fun b o hc e=>⟨o,k b o (fun z=>hc (by simp[z])) e⟩) (fun _ _ e=>e) (fun _ _ _ e=>e) (fun b ps e=>⟨#[],by rw[e];simp⟩) (fun m hm=>?_) (fun b u e=>?_) I.bare
 ·have e:b=it:=by simpa using hb
  subst e
  exact⟨h1,hL,h2,h3⟩
 ·obtain⟨o,es,ep,ho,r⟩:=hm
  exact⟨o,es,ep,k _ o (xw hL) ho,r⟩
 ·refine(I.hok b u e).stay (fun c v hc q=>k c v ?_ q) (fun _ q=>q) fun _ _ q=>q
  rcases hc with z|z
  ·rw[z];exact nit b u e
  ·exact nit c _ z
theorem Inv.tok (I:Inv X pins σ H s) (t:Nat):Inv X pins σ H { s with toks:=t }:=I.un (h':=s.heap) (t':=t) Un.refl I.hok
theorem Inv.kept {t':Nat}(I:Inv X pins σ H s) (k:∀b u,s.heap.get? b=some u->h'.get? b=some u):Inv X pins σ H { s with heap:=h',toks:=t' }:=I.un (Un.kept k) (I.hok.kept k)
theorem Inv.laid {a:Addr}{o:HO}{t':Nat}(I:Inv X pins σ H s) (k:∀b u,s.heap.get? b=some u->h'.get? b=some u) (hp:s.heap.objs.size<=a) (new:ObjOk X.prog X.w (upd H a o) h' a o):
  Inv X pins σ (upd H a o) { s with heap:=h',toks:=t' }:=I.un (Un.laid k hp (I.hok.fresh hp)) (I.hok.laid k hp new)
theorem Inv.write {x e:Addr}{o:HO}{t':Nat}(I:Inv X pins σ H s) (mu:Mut (H x)) (he:e=x\/H e=some (.own x)) (k:∀b u,b≠e->s.heap.get? b=some u->h'.get? b=some u) (heo:∃u,h'.get? e=some u)
  (new:ObjOk X.prog X.w (upd H x o) h' x o):Inv X pins σ (upd H x o) { s with heap:=h',toks:=t' }:=I.un (Un.write mu he k heo) (I.hok.write mu he k heo new)
theorem Inv.pins_of {pins':List (Addr × Obj)}(I:Inv X pins σ H s) (h:∀p∈pins',s.heap.get? p.1=some p.2/\H p.1=none/\p.1≠X.env.locals/\p.1 ∉ X.fs/\∀v,p.2.data≠.cell v):Inv X pins' σ H s:=
 ⟨I.ok,I.os,I.bare,I.base,I.loc,I.cell,I.free,I.freeC,fun p hp=>(xV.mp hp).elim (fun z=>I.pin p (vC _ z)) (h p),I.hok,I.len⟩
theorem zI2 {N:List Str}(hN:N.Nodup) {i j:Nat}{x:Str}(a:N[i]?=some x) (b:N[j]?=some x):i=j:=by
 obtain⟨h1,e1⟩:=xK.mp a
 obtain⟨h2,e2⟩:=xK.mp b
 exact(List.getElem_inj hN).mp (e1.trans e2.symm)
theorem zFw {M:Model}{A:Around}{E:Value->Shared->Prop}{i:Nat}{x:Str}{v:V}{u:Value}{Q:Unit->Shared->Prop}(I:Inv X pins σ H s) (hN:X.N.Nodup) (hi:X.N[i]?=some x) (hx:Loc X.env.scope x) (r:RelV v u)
  (h:∀s',Inv X pins (σ.set i (some v)) H s'->(∃a,Heap.SameBut a s.heap s'.heap/\(a=X.env.locals\/X.env.cells.lookup x=some a))->Q () s') (hf:X.fn x=true\/X.env.scope.names.lookup x=some .local:=by first|exact .inl rfl|exact .inr rfl|assumption):wpAny M A (storeName X.env x u) Q E s:=by
 obtain⟨m,hn,hl⟩:=id I.loc
 have hcls:(X.env.scope.kind == .class || (X.env.scope.kind == .module && X.env.locals != X.env.globals))=false:=by rw[I.ok.kind];rfl
 have hiσ:i<σ.length:=by rw[I.len];exact(xK.mp hi).1
 have cne:=I.cne
 have tracked:∀{a:Addr}{h':Heap},(∃o,s.heap.get? a=some o/\H a=none)->Heap.SameBut a s.heap h'->HOk X.prog X.w H h':=fun {a h'} ha hs b ob e=>by
  obtain⟨_,_,hfree⟩:=ha
  refine(I.hok b ob e).stay (fun c w' hc q=>(hs.2 c ?_).trans q) (fun _ q=>q) fun _ _ q=>q
  rintro rfl
  rcases hc with rfl|hc
  ·rw[hfree]at e;cases e
  ·rw[hfree]at hc;cases hc
 rcases hx with hk|hk
 ·refine wpAny_storeName_local hk hn (fun h' hn' hs=>?_) hcls
  obtain⟨oL,_,_,hoL,_⟩:=id hn
  refine h _ ⟨I.ok,I.os,I.bare,⟨fun b o e n hb hx=>?_,fun b o e n hb hx=>?_,I.base.free,fun b o e hx=>?_,I.base.tups,I.base.frzs,I.base.tbls⟩,⟨_,hn',fun j y v' e1 e2 e3=>?_⟩,fun y c e=>?_,I.free,I.freeC,fun p hp=>?_,tracked ⟨oL,hoL,I.free⟩ hs,by simpa using I.len⟩ ⟨_,hs,.inl rfl⟩
  ·exact(hs.2 b (xr (xE (xl e) I.ok.above))).trans (I.base.keep b o e n hb hx)
  ·obtain⟨sl,e1⟩:=I.base.slot b o e n hb hx
   exact⟨sl,(hs.2 b (xr (xE (xl e) I.ok.above))).trans e1⟩
  ·obtain⟨o',e1⟩:=I.base.there b o e hx
   exact⟨o',(hs.2 b (xr (xE (xl e) I.ok.above))).trans e1⟩
  ·by_cases hj:j=i
   ·subst hj
    rw[hi]at e1;cases e1
    rw[vq hiσ]at e2
    cases e2
    exact⟨u,r,.inl ⟨hk,by simp⟩⟩
   ·rw[xM (xw hj)]at e2
    obtain⟨u',r',q⟩:=hl j y v' e1 e2 e3
    refine⟨u',r',?_⟩
    rcases q with⟨k,e⟩|⟨k,c,e,z⟩
    ·refine .inl ⟨k,?_⟩
     have:y≠x:=fun e=>hj (zI2 hN e1 (e ▸ hi))
     simp[this,e]
    ·exact .inr ⟨k,c,e,z.sameBut hs (cne y c e)⟩
  ·obtain⟨w',z⟩:=I.cell y c e
   exact⟨w',z.sameBut hs (cne y c e)⟩
  ·obtain⟨e,n,ne,nf,d⟩:=I.pin p hp
   exact⟨(hs.2 p.1 ne).trans e,n,ne,nf,d⟩
 ·have hfn:X.fn x=true:=by
   rcases hf with z|z
   ·exact z
   ·rw[z]at hk;cases hk
  obtain⟨c,hc⟩:=I.ok.has x (.inl hk)
  obtain⟨w',z⟩:=I.cell x c hc
  refine wpAny_storeName_cell I.ok.kind hk hc z (fun h' hc' hs=>?_)
  obtain⟨oc,hoc,hocd⟩:=id z
  refine h { s with heap:=h' } ⟨I.ok,I.os,I.bare,⟨fun b o e n hb hx=>?_,fun b o e n hb hx=>?_,I.base.free,fun b o e hx=>?_,I.base.tups,I.base.frzs,I.base.tbls⟩,⟨m,hn.sameBut hs (xw (cne x c hc)),fun j y v' e1 e2 e3=>?_⟩,fun y c' e=>?_,I.free,I.freeC,fun p hp=>?_,tracked ⟨oc,hoc,I.freeC x c hc⟩ hs,by simpa using I.len⟩ ⟨c,hs,.inr hc⟩
  ·exact(hs.2 b (xr (xE (xl e) (I.ok.cab x c hfn hc)))).trans (I.base.keep b o e n hb hx)
  ·obtain⟨sl,e1⟩:=I.base.slot b o e n hb hx
   exact⟨sl,(hs.2 b (xr (xE (xl e) (I.ok.cab x c hfn hc)))).trans e1⟩
  ·obtain⟨o',e1⟩:=I.base.there b o e hx
   exact⟨o',(hs.2 b (xr (xE (xl e) (I.ok.cab x c hfn hc)))).trans e1⟩
  ·by_cases hj:j=i
   ·subst hj
    rw[hi]at e1;cases e1
    rw[vq hiσ]at e2
    cases e2
    exact⟨u,r,.inr ⟨.inl hk,c,hc,hc'⟩⟩
   ·rw[xM (xw hj)]at e2
    obtain⟨u',r',q⟩:=hl j y v' e1 e2 e3
    refine⟨u',r',?_⟩
    rcases q with q|⟨k,c',e,z'⟩
    ·exact .inl q
    ·refine .inr ⟨k,c',e,z'.sameBut hs ?_⟩
     rintro rfl
     exact hj (zI2 hN e1 (I.ok.inj _ _ _ e hc ▸ hi))
  ·by_cases hcc:c'=c
   ·subst hcc;exact⟨_,hc'⟩
   ·obtain⟨w2,z2⟩:=I.cell y c' e
    exact⟨w2,z2.sameBut hs hcc⟩
  ·obtain⟨e,n,ne,nf,d⟩:=I.pin p hp
   refine⟨(hs.2 p.1 ?_).trans e,n,ne,nf,d⟩
   intro q
   rw[q,hoc]at e
   have q':oc=p.2:=xP e
   exact d w' (by rw[<- q'];exact hocd)
theorem zD3 {M:Model}{A:Around}{E:Value->Shared->Prop}{i:Nat}{x:Str}{v:V}{u:Value}{Q:Unit->Shared->Prop}(I:Inv X pins σ H s) (hN:X.N.Nodup) (hi:X.N[i]?=some x) (hx:Loc X.env.scope x) (r:RelV v u)
  (h:∀s',Inv X pins (σ.set i (some v)) H s'->Q () s') (hf:X.fn x=true\/X.env.scope.names.lookup x=some .local:=by first|exact .inl rfl|exact .inr rfl|assumption):wpAny M A (storeName X.env x u) Q E s:=
 zFw I hN hi hx r (fun s' I' _=>h s' I') hf
theorem Inv.call' {s':Shared}{ch:List Addr}(I:Inv X pins σ H s) (ho:s'.os=s.os) (u:Un (frs X.stack) ch H H' s.heap s'.heap) (hok:HOk X.prog X.w H' s'.heap) (hg:AllBare s'.gens)
  (hch:∀b∈ch,(b∈X.ex\/X.s₀.heap.objs.size<=b)/\b≠X.env.locals/\(∀x c,X.env.cells.lookup x=some c->c≠b)/\∀p∈X.pn++pins,p.1≠b):Inv X pins σ H' s':=by
 obtain⟨h',g',d',t',o'⟩:=s'
 have e:o'=s.os:=ho
 subst e
 exact I.call (g':=g') (t':=t') (d':=d') u hok hg hch
end
noncomputable abbrev XK:=Value->Option Addr->Hp->Prop
noncomputable abbrev St:=List (Option V)
noncomputable abbrev VK:=V->Hp->Prop
noncomputable abbrev TE:=St->Hp->VK->Prop
noncomputable abbrev TT:=St->Hp->(Bool->Hp->Prop)->Prop
noncomputable abbrev TA:=St->Hp->(List V->Hp->Prop)->Prop
structure Ends where
 nx:St->Hp->Prop
 rt:VK
 bk:St->Hp->Prop:=fun _ _=>False
 ct:St->Hp->Prop:=fun _ _=>False
noncomputable abbrev TS:=Ends->St->Hp->Prop
noncomputable def EP (X:Cx) (pins:List (Addr × Obj)) (σ:St) (Q:VK) (u:Value) (s':Shared):Prop:=∃v H',Inv X pins σ H' s'/\RelV v u/\Q v H'
noncomputable def TP (X:Cx) (pins:List (Addr × Obj)) (σ:St) (Q:Bool->Hp->Prop) (b:Bool) (s':Shared):Prop:=∃H',Inv X pins σ H' s'/\Q b H'
noncomputable def AP (X:Cx) (pins:List (Addr × Obj)) (σ:St) (Q:List V->Hp->Prop) (us:List Value) (s':Shared):Prop:=∃vs H',Inv X pins σ H' s'/\Vals vs us/\Q vs H'
noncomputable def SP (X:Cx) (pins:List (Addr × Obj)) (D:Ends) (f:Flow) (s':Shared):Prop:=
 match f with
 | .next=>∃σ' H',Inv X pins σ' H' s'/\D.nx σ' H'
 | .brk=>∃σ' H',Inv X pins σ' H' s'/\D.bk σ' H'
 | .cont=>∃σ' H',Inv X pins σ' H' s'/\D.ct σ' H'
 | .ret u=>∃v σ' H',Inv X pins σ' H' s'/\RelV v u/\D.rt v H'
noncomputable def PE (X:Cx) (e:Expr) (t:TE):Prop:=
 ∀(pins:List (Addr × Obj)) (s:Shared) (σ:St) (H:Hp) (Q:VK),Inv X pins σ H s->t σ H Q->wpAny (model X.prog X.w) X.A (eval e X.env) (EP X pins σ Q) X.xe s
noncomputable def PT (X:Cx) (e:Expr) (t:TT):Prop:=
 ∀(pins:List (Addr × Obj)) (s:Shared) (σ:St) (H:Hp) (Q:Bool->Hp->Prop),Inv X pins σ H s->t σ H Q->wpAny (model X.prog X.w) X.A (isTrue e X.env (eval e X.env)) (TP X pins σ Q) X.xe s
noncomputable def PW (X:Cx) (e:Expr) (t:TT):Prop:=
 ∀(whole:Sem Value) (pins:List (Addr × Obj)) (s:Shared) (σ:St) (H:Hp) (Q:Bool->Hp->Prop),Inv X pins σ H s->t σ H Q->wpAny (model X.prog X.w) X.A (isTrue e X.env whole) (TP X pins σ Q) X.xe s
theorem PW.pt {X:Cx}{e:Expr}{t:TT}(h:PW X e t):PT X e t:=h _
noncomputable def PA (X:Cx) (es:List Expr) (t:TA):Prop:=
 ∀(pos:Pos) (pins:List (Addr × Obj)) (s:Shared) (σ:St) (H:Hp) (Q:List V->Hp->Prop),Inv X pins σ H s->t σ H Q->wpAny (model X.prog X.w) X.A (spliced (backTo pos (starEach es X.env))) (AP X pins σ Q) X.xe s
noncomputable def PS (X:Cx) (st:Stmt) (t:TS):Prop:=
 ∀(pins:List (Addr × Obj)) (s:Shared) (σ:St) (H:Hp) (D:Ends),Inv X pins σ H s->t D σ H->wpAny (model X.prog X.w) X.A (exec st X.env) (SP X pins D) X.xe s
noncomputable def PSs (X:Cx) (st:List Stmt) (t:TS):Prop:=
 ∀(pins:List (Addr × Obj)) (s:Shared) (σ:St) (H:Hp) (D:Ends),Inv X pins σ H s->t D σ H->wpAny (model X.prog X.w) X.A (execs st X.env) (SP X pins D) X.xe s
theorem thn {α:Type}{t:Sem α}{Q Q':α->Shared->Prop}{M:Model}{A:Around}{E:Value->Shared->Prop}{s:Shared}(h:wpAny M A t Q E s) (hQ:∀a s,Q a s->Q' a s):wpAny M A t Q' E s:=vt h hQ fun _ _ x=>x
end L2
namespace L2
open PySem PySem.Spec PyProof.Rows
section
variable {X:Cx}
noncomputable def tVar (i:Nat):TE:=fun σ H Q=>∃v,σ[i]?=some (some v)/\Q v H
noncomputable def tC (v:V):TE:=fun _ H Q=>Q v H
theorem zVb {i:Nat}{x:Str}{pos:Pos}(hN:X.N[i]?=some x) (hv:Vis X.env.scope x) (hd:(x == ("__debug__":Str))=false:=by decide) (hcd:(x == ("__classdict__":Str))=false:=by decide):PE X (.Name x pos) (tVar i):=by
 intro pins s σ H Q I h
 obtain⟨v,e,h⟩:=h
 obtain⟨m,hn,hl⟩:=I.loc
 obtain⟨u,r,l⟩:=hl i x v hN e hv
 have fin:EP X pins σ Q u s:=⟨v,H,I,r,h⟩
 rcases l with⟨hk,hm⟩|⟨hk,c,hc,hcell⟩
 ·exact wpAny_Name (wpAny_loadName_local I.ok.kind hk hn hm fin) hd
 ·rcases hk with hk|hk
  ·exact wpAny_Name (wpAny_loadName_cell I.ok.kind hk hc hcell fin) hd
  ·exact wpAny_Name (wpAny_loadName_free I.ok.kind hk hc hcell fin hcd) hd
theorem zVi {i j pos}:PE X (.Constant (.int i) j pos) (tC (.int i)):=fun _ _ _ H _ I h=>wpAny_Constant_int ⟨.int i,H,I.tok _,⟨_,rfl⟩,h⟩
theorem zYi {b j pos}:PE X (.Constant (.bool b) j pos) (tC (.bl b)):=fun _ _ _ H _ I h=>Constant_bool ⟨.bl b,H,I,rfl,h⟩
theorem zVe {x j pos}:PE X (.Constant (.str x) j pos) (tC (.str x)):=fun _ _ _ H _ I h=>Calls.Constant_str ⟨.str x,H,I.tok _,⟨_,rfl⟩,h⟩
noncomputable def Gl (X:Cx) (x:Str):Prop:=X.env.kindOf x=some .globalImplicit
theorem zSp {E:Value->Shared->Prop}{pins:List (Addr × Obj)}{s:Shared}{σ:St}{H:Hp}{x:Str}{u:Value}{pos:Pos}{Q:Value->Shared->Prop}(I:Inv X pins σ H s) (hg:Gl X x) (hm:X.mg x=some u) (h:Q u s)
  (hd:(x == ("__debug__":Str))=false:=by decide):wpAny (model X.prog X.w) X.A (eval (.Name x pos) X.env) Q E s:=
 Calls.Name_function_global I.ok.kind hg (Calls.loadGlobal_global (by rw[I.ok.glob];exact I.mod.glob.keeps I.bk) hm h) hd
theorem zBm {E:Value->Shared->Prop}{pins:List (Addr × Obj)}{s:Shared}{σ:St}{H:Hp}{x:Str}{u:Value}{pos:Pos}{Q:Value->Shared->Prop}(I:Inv X pins σ H s) (hg:Gl X x) (hm:X.mg x=none) (hv:bootBuiltins x=some u) (h:Q u s)
  (hn:x≠"__name__":=by decide) (hd:(x == ("__debug__":Str))=false:=by decide):wpAny (model X.prog X.w) X.A (eval (.Name x pos) X.env) Q E s:=by
 obtain⟨mb,h1,h2⟩:=I.mod.blt
 exact Calls.Name_function_global I.ok.kind hg (Calls.loadGlobal_builtin (by rw[I.ok.glob];exact I.mod.glob.keeps I.bk) hm (by rw[I.ok.blt];exact h1.keeps I.bk) ((h2 x hn).trans hv) h) hd
theorem zS2 {x:Str}{v:V}{u:Value}{pos:Pos}(hg:Gl X x) (hm:X.mg x=none) (hv:bootBuiltins x=some u) (r:RelV v u) (hn:x≠"__name__":=by decide) (hd:(x == ("__debug__":Str))=false:=by decide):PE X (.Name x pos) (tC v):=
 fun _ _ _ H _ I h=>zBm I hg hm hv ⟨v,H,I,r,h⟩ hn hd
variable {a b:Expr}{ta tb:TE}{pos:Pos}
variable {tA tB':TT}{rest:List Expr}
noncomputable def tAnd (t u:TT):TT:=fun σ H Q=>t σ H fun c H1=>if c=true then u σ H1 Q else Q false H1
noncomputable def tOr (t u:TT):TT:=fun σ H Q=>t σ H fun c H1=>if c=true then Q true H1 else u σ H1 Q
noncomputable def tNot (t:TT):TT:=fun σ H Q=>t σ H fun c H1=>Q (!c) H1
theorem zRf (ha:PT X a tA):PW X (.BoolOp .And [a] pos) tA:=by
 intro wh pins s σ H Q I h
 refine isTrue_and (thn (ha pins s σ H Q I h) fun c s1 e=>?_)
 cases c with
 | true=>exact isTrue_and_nil e
 | false=>exact e
theorem zUx (ha:PT X a tA):PW X (.BoolOp .Or [a] pos) tA:=by
 intro wh pins s σ H Q I h
 refine isTrue_or (thn (ha pins s σ H Q I h) fun c s1 e=>?_)
 cases c with
 | false=>exact isTrue_or_nil e
 | true=>exact e
theorem zUz (ha:PT X a tA) (hb:PW X (.BoolOp .And (b::rest) pos) tB'):PW X (.BoolOp .And (a::b::rest) pos) (tAnd tA tB'):=by
 intro wh pins s σ H Q I h
 refine isTrue_and (thn (ha pins s σ H _ I h) fun c s1 hq1=>?_)
 obtain⟨H1,I1,q1⟩:=hq1
 cases c with
 | true=>exact hb wh pins s1 σ H1 Q I1 q1
 | false=>exact⟨H1,I1,q1⟩
theorem zYb (ha:PT X a tA) (hb:PW X (.BoolOp .Or (b::rest) pos) tB'):PW X (.BoolOp .Or (a::b::rest) pos) (tOr tA tB'):=by
 intro wh pins s σ H Q I h
 refine isTrue_or (thn (ha pins s σ H _ I h) fun c s1 hq1=>?_)
 obtain⟨H1,I1,q1⟩:=hq1
 cases c with
 | true=>exact⟨H1,I1,q1⟩
 | false=>exact hb wh pins s1 σ H1 Q I1 q1
theorem zV1 (ha:PT X a tA):PT X (.UnaryOp .Not a pos) (tNot tA):=by
 intro pins s σ H Q I h
 exact isTrue_not (ha pins s σ H (fun c H1=>Q (!c) H1) I h)
noncomputable def zUl (ta tb:TE):TE:=fun σ H Q=>ta σ H fun x H1=>∃c,x=.bl c/\if c=true then tb σ H1 Q else Q (.bl false) H1
theorem zVg {op}{t:TE}(h:PE X a t):PE X (.BoolOp op [a] pos) t:=fun pins s σ H Q I hw=>BoolOp_one (h pins s σ H Q I hw)
theorem zVn (ha:PE X a ta) (hb:PE X (.BoolOp .And (b::rest) pos) tb):PE X (.BoolOp .And (a::b::rest) pos) (zUl ta tb):=by
 intro pins s σ H Q I h
 refine BoolOp_and (thn (ha pins s σ H _ I h) fun v s1 hq1=>?_)
 obtain⟨x,H1,I1,r1,q1⟩:=hq1
 obtain⟨c,rfl,q1⟩:=q1
 cases r1
 refine vZ ?_
 cases c with
 | true=>exact hb pins s1 σ H1 Q I1 q1
 | false=>exact⟨.bl false,H1,I1,rfl,q1⟩
end
end L2
namespace L2
open PySem PySem.Spec PyProof.Rows
noncomputable def SqL (K:PySem.W.Frag) (H:Hp) (a:Addr) (xs:List V):Prop:=
 Rd H a (.lst xs) \/
  ∃(o:Obj) (its:Array Value) (n:Nat),K.lookup a=some o/\o.cls=.type "list"/\o.dict=none/\o.data=.seq its n/\its.size<=sizeLine/\Vals xs its.toList
noncomputable def SqT (K:PySem.W.Frag) (H:Hp) (a:Addr) (xs:List V):Prop:=
 Rd H a (.tup xs) \/
  ∃(o:Obj) (its:Array Value) (n:Nat),K.lookup a=some o/\o.cls=.type "tuple"/\o.data=.seq its n/\its.size<=sizeLine/\Vals xs its.toList
noncomputable def absV:Value->Option V
 | .none=>some .non
 | .bool b=>some (.bl b)
 | .int i _=>some (.int i)
 | .str x _=>some (.str x)
 | .bytes b _=>some (.byt b)
 | .float b _=>some (.flt b)
 | .ref a=>some (.ref a)
 | .type n=>some (.ty n)
 | _=>none
theorem RelV.abs {x:V}{u:Value}(r:RelV x u):absV u=some x:=by
 cases x with
 | non=>cases r;rfl
 | bl _=>cases r;rfl
 | int _=>obtain⟨t,rfl⟩:=r;rfl
 | str _=>obtain⟨t,rfl⟩:=r;rfl
 | byt _=>obtain⟨t,rfl⟩:=r;rfl
 | flt _=>obtain⟨t,rfl⟩:=r;rfl
 | ref _=>cases r;rfl
 | ty _=>cases r;rfl
theorem RelV.inj {x y:V}{u:Value}(r:RelV x u) (q:RelV y u):x=y:=xP (r.abs.symm.trans q.abs)
theorem Vals.inj:∀{xs ys:List V}{us:List Value},Vals xs us->Vals ys us->xs=ys
 | _,_,_,.nil,.nil=>rfl
 | _,_,_,.cons r t,.cons r' t'=>by rw[r.inj r',Vals.inj t t']
section
variable {X:Cx}{pins:List (Addr × Obj)}{σ:St}{H:Hp}{s:Shared}{a:Addr}{xs ys:List V}
theorem SqL.of {K:PySem.W.Frag}(h:H a=some (.lst xs)):SqL K H a xs:=.inl (.inl h)
theorem SqT.of {K:PySem.W.Frag}(h:H a=some (.tup xs)):SqT K H a xs:=.inl (.inl h)
theorem Inv.list (I:Inv X pins σ H s) (h:SqL X.K H a xs):∃its:List Value,Vals xs its/\PlainL s.heap a its.toArray/\xs.length<=sizeLine:=by
 rcases h with h|⟨o,its,n,hk,hc,hd,hs,hz,r⟩
 ·obtain⟨z,its,n,r,e⟩:=h.ok I.hok
  exact⟨its,r,⟨_,n,e,rfl,rfl,rfl⟩,z⟩
 ·refine⟨its.toList,r,⟨o,n,I.kIn a o hk,hc,hd,by simpa using hs⟩,?_⟩
  have e:=r.length
  simp only[xW]at e
  lia
theorem Inv.tuple (I:Inv X pins σ H s) (h:SqT X.K H a xs):∃its:List Value,Vals xs its/\IsTup s.heap a its.toArray/\xs.length<=sizeLine:=by
 rcases h with h|⟨o,its,n,hk,hc,hs,hz,r⟩
 ·obtain⟨z,its,r,p⟩:=h.ok I.hok
  exact⟨its,r,p,z⟩
 ·refine⟨its.toList,r,⟨o,I.kIn a o hk,hc,n,by simpa using hs⟩,?_⟩
  have e:=r.length
  simp only[xW]at e
  lia
theorem Inv.list_inj (I:Inv X pins σ H s) (h:SqL X.K H a xs) (h':SqL X.K H a ys):xs=ys:=by
 obtain⟨its,r,⟨o,n,e,_,_,d⟩,_⟩:=I.list h
 obtain⟨its',r',⟨o',n',e',_,_,d'⟩,_⟩:=I.list h'
 rw[e]at e';cases e'
 rw[d]at d'
 injection d' with d1 _
 have:its=its':=by simpa using congrArg Array.toList d1
 subst this
 exact r.inj r'
theorem Inv.tuple_inj (I:Inv X pins σ H s) (h:SqT X.K H a xs) (h':SqT X.K H a ys):xs=ys:=by
 obtain⟨its,r,⟨o,e,_,n,d⟩,_⟩:=I.tuple h
 obtain⟨its',r',⟨o',e',_,n',d'⟩,_⟩:=I.tuple h'
 rw[e]at e';cases e'
 rw[d]at d'
 injection d' with d1 _
 have:its=its':=by simpa using congrArg Array.toList d1
 subst this
 exact r.inj r'
end
noncomputable abbrev Cx.wish (X:Cx) (E:Value->Shared->Prop):Cx:={ X with xe:=E }
noncomputable abbrev Cx.nox (X:Cx):Cx:=X.wish fun _ _=>False
theorem Cx.Ok.wish {X:Cx}(ok:X.Ok) (E:Value->Shared->Prop):(X.wish E).Ok:=
 ⟨ok.mod,ok.kind,ok.glob,ok.blt,ok.above,ok.inj,ok.has,ok.cab,ok.hd,ok.frames,ok.stk,ok.exf,ok.bs,ok.bsz,ok.noex,ok.exfs,ok.funs,ok.frf,ok.gds⟩
theorem Cx.Ok.unwish {X:Cx}{E:Value->Shared->Prop}(ok:(X.wish E).Ok):X.Ok:=
 ⟨ok.mod,ok.kind,ok.glob,ok.blt,ok.above,ok.inj,ok.has,ok.cab,ok.hd,ok.frames,ok.stk,ok.exf,ok.bs,ok.bsz,ok.noex,ok.exfs,ok.funs,ok.frf,ok.gds⟩
section
variable {X:Cx}{pins:List (Addr × Obj)}{σ:St}{H:Hp}{s:Shared}{E:Value->Shared->Prop}
theorem Inv.wish (I:Inv X pins σ H s) (E:Value->Shared->Prop):Inv (X.wish E) pins σ H s:=⟨I.ok.wish E,I.os,I.bare,I.base,I.loc,I.cell,I.free,I.freeC,I.pin,I.hok,I.len⟩
theorem Inv.unwish (I:Inv (X.wish E) pins σ H s):Inv X pins σ H s:=⟨I.ok.unwish,I.os,I.bare,I.base,I.loc,I.cell,I.free,I.freeC,I.pin,I.hok,I.len⟩
theorem SP.unwish {D:Ends}{f:Flow}{s':Shared}(h:SP (X.wish E) pins D f s'):SP X pins D f s':=by
 cases f with
 | next=>obtain⟨σ',H',I,q⟩:=h;exact⟨σ',H',I.unwish,q⟩
 | brk=>obtain⟨σ',H',I,q⟩:=h;exact⟨σ',H',I.unwish,q⟩
 | cont=>obtain⟨σ',H',I,q⟩:=h;exact⟨σ',H',I.unwish,q⟩
 | ret u=>obtain⟨v,σ',H',I,r,q⟩:=h;exact⟨v,σ',H',I.unwish,r,q⟩
theorem PSs.nox {st:List Stmt}{t:TS}(h:PSs X.nox st t):PSs X st t:=fun pins s σ H D I hw=>
 vt (h pins s σ H D (I.wish _) hw) (fun _ _ q=>q.unwish) fun _ _ z=>False.elim z
end
section
variable {X:Cx}{st:Stmt}{rest:List Stmt}{t u:TS}{e:Expr}{te:TE}{pos:Pos}
noncomputable def zUj:TS:=fun D σ H=>D.nx σ H
noncomputable def tSeq (t u:TS):TS:=fun D σ H=>t { D with nx:=u D } σ H
theorem zRl:PSs X [] zUj:=fun _ _ σ H _ I h=>wpAny_execs_nil ⟨σ,H,I,h⟩
theorem zO7 (h1:PS X st t) (h2:PSs X rest u):PSs X (st::rest) (tSeq t u):=by
 intro pins s σ H D I h
 refine wpAny_execs_cons (thn (h1 pins s σ H { D with nx:=u D } I h) fun f s1 q=>?_)
 cases f with
 | next=>
  obtain⟨σ',H',I',q⟩:=q
  exact h2 pins s1 σ' H' D I' q
 | ret v=>exact q
 | brk=>exact q
 | cont=>exact q
theorem zRk (h1:PS X st t):PSs X [st] t:=by
 intro pins s σ H D I h
 refine wpAny_execs_cons (thn (h1 pins s σ H D I h) fun f s1 q=>?_)
 cases f with
 | next=>exact wpAny_execs_nil q
 | ret v=>exact q
 | brk=>exact q
 | cont=>exact q
theorem Inv.quiet {pins:List (Addr × Obj)}{σ:St}{H:Hp}{s:Shared}(I:Inv X pins σ H s):interactive X.env=false:=by simp[interactive,I.ok.kind]
noncomputable def zQz (te:TE):TS:=fun D σ H=>te σ H fun _ H1=>D.nx σ H1
theorem zRo (he:PE X e te) (hs:swapsWith e none pos.line X.env=pure false:=by rfl):PS X (.Expr e pos) (zQz te):=by
 intro pins s σ H D I h
 exact wpAny_Expr_any (thn (he pins s σ H _ I h) fun v s1 hz1=>by obtain⟨x,H1,I1,r1,q1⟩:=hz1;exact ⟨σ,H1,I1,q1⟩) I.quiet hs
noncomputable def tRet (te:TE):TS:=fun D σ H=>te σ H D.rt
theorem zV3 (he:PE X e te):PS X (.Return (some e) pos) (tRet te):=by
 intro pins s σ H D I h
 exact wpAny_Return_some (thn (he pins s σ H _ I h) fun v s1 hz2=>by obtain⟨x,H1,I1,r1,q1⟩:=hz2;exact ⟨x,σ,H1,I1,r1,q1⟩)
noncomputable def tIfS (c:TT) (t u:TS):TS:=fun D σ H=>c σ H fun b H1=>if b=true then t D σ H1 else u D σ H1
theorem zYc {c:Expr}{a b:List Stmt}{tc:TT}(hc:PT X c tc) (ha:PSs X a t) (hb:PSs X b u):PS X (.If c a b pos) (tIfS tc t u):=by
 intro pins s σ H D I h
 refine wpAny_If (thn (hc pins s σ H _ I h) fun d s1 hq1=>?_)
 obtain⟨H1,I1,q1⟩:=hq1
 cases d with
 | true=>exact ha pins s1 σ H1 D I1 q1
 | false=>exact hb pins s1 σ H1 D I1 q1
end
noncomputable abbrev TG:=V->St->Hp->(St->Hp->Prop)->Prop
noncomputable abbrev TGs:=List V->St->Hp->(St->Hp->Prop)->Prop
noncomputable def PG (X:Cx) (target:Expr) (t:TG):Prop:=
 ∀(pins:List (Addr × Obj)) (s:Shared) (σ:St) (H:Hp) (v:V) (u:Value) (Q:St->Hp->Prop),Inv X pins σ H s->RelV v u->t v σ H Q->
  wpAny (model X.prog X.w) X.A (assign target X.env u) (fun _ s'=>∃σ' H',Inv X pins σ' H' s'/\Q σ' H') X.xe s
noncomputable def PGs (X:Cx) (ts:List Expr) (t:TGs):Prop:=
 ∀(pins:List (Addr × Obj)) (s:Shared) (σ:St) (H:Hp) (vs:List V) (us:List Value) (Q:St->Hp->Prop),Inv X pins σ H s->Vals vs us->t vs σ H Q->
  wpAny (model X.prog X.w) X.A (assignInOrder ((assignEach ts X.env).map (·.2)) us) (fun _ s'=>∃σ' H',Inv X pins σ' H' s'/\Q σ' H') X.xe s
noncomputable abbrev TSet:=V->V->V->Hp->(Hp->Prop)->Prop
noncomputable def PSet (X:Cx) (t:TSet):Prop:=
 ∀(pins:List (Addr × Obj)) (s:Shared) (σ:St) (H:Hp) (o i v:V) (ov iv u:Value) (Q:Hp->Prop),Inv X pins σ H s->RelV o ov->RelV i iv->RelV v u->t o i v H Q->
  wpAny (model X.prog X.w) X.A (setItem ov iv u) (fun _ s'=>∃H',Inv X pins σ H' s'/\Q H') X.xe s
section
variable {X:Cx}{pos:Pos}
noncomputable def gName (i:Nat):TG:=fun v σ H Q=>Q (σ.set i (some v)) H
theorem zRu {i:Nat}{x:Str}(hN:X.N.Nodup) (hi:X.N[i]?=some x) (hx:Loc X.env.scope x) (hf:X.fn x=true\/X.env.scope.names.lookup x=some .local:=by first|exact .inl rfl|exact .inr rfl|assumption):PG X (.Name x pos) (gName i):=by
 intro pins s σ H v u Q I r h
 exact wpAny_assign_Name (zD3 I hN hi hx r (fun s' I'=>⟨_,H,I',h⟩) hf)
noncomputable def gNil:TGs:=fun vs σ H Q=>vs=[]/\Q σ H
noncomputable def zT2 (t:TG) (u:TGs):TGs:=fun vs σ H Q=>∃v r,vs=v::r/\t v σ H fun σ' H'=>u r σ' H' Q
theorem zRs:PGs X [] gNil:=by
 intro pins s σ H vs us Q I r h
 obtain⟨e,h⟩:=h
 subst e
 cases r
 exact assignInOrder_nil ⟨σ,H,I,h⟩
theorem zOh {e:Expr}{es:List Expr}{t:TG}{u:TGs}(h1:PG X e t) (h2:PGs X es u)
  (hs:(assignEach (e::es) X.env).map (·.2)=assign e X.env::(assignEach es X.env).map (·.2):=by rfl):PGs X (e::es) (zT2 t u):=by
 intro pins s σ H vs us Q I r h
 obtain⟨v,vr,e1,h⟩:=h
 subst e1
 cases r with
 | cons r rr=>
  rw[hs]
  refine assignInOrder_cons (thn (h1 pins s σ H _ _ _ I r h) fun _ s1 hq1=>?_)
  obtain⟨σ1,H1,I1,q1⟩:=hq1
  exact h2 pins s1 σ1 H1 _ _ Q I1 rr q1
noncomputable def gTup (K:PySem.W.Frag) (n:Nat) (t:TGs):TG:=fun v σ H Q=>∃a xs,v=.ref a/\SqT K H a xs/\xs.length=n/\t xs σ H Q
theorem zV9 {es:List Expr}{k:Nat}{t:TGs}{n:Nat}(hc:X.calm=true) (h:PGs X es t)
  (hn:(assignEach es X.env).length=n:=by rfl) (hst:(assignEach es X.env).findIdx? (·.1)=none:=by rfl):PG X (.Tuple es k pos) (gTup X.K n t):=by
 intro pins s σ H v u Q I r hw
 obtain⟨a,xs,e1,hq,hl,hw⟩:=hw
 subst e1
 cases r
 obtain⟨its,rv,ht,hz⟩:=I.tuple hq
 refine assign_Tuple_tuple (I.ok.hd hc) ht (by simp[hn,<- hl,rv.length]) hst fun h' hx=>?_
 have I1:Inv X pins σ H { s with heap:=h' }:=I.kept (t':=s.toks) fun b o e=>hx b o (xr (xl e)) e
 exact h pins _ σ H xs _ Q I1 (by simpa using rv) hw
noncomputable def gSub (to ti:TE) (t:TSet):TG:=fun v σ H Q=>to σ H fun o H1=>ti σ H1 fun i H2=>t o i v H2 fun H3=>Q σ H3
theorem zVa {o i:Expr}{to ti:TE}{t:TSet}(ho:PE X o to) (hi:PE X i ti) (hs:PSet X t)
  (ha:∀v,assign (.Subscript o i pos) X.env v=(do
   let ov <- holding [v] (eval o X.env)
   let iv <- holding [v,ov] (eval i X.env)
   standAt pos
   holding [v,ov,iv] (setItem ov iv v)
   release [v,ov,iv] []):=by intro _;rfl):PG X (.Subscript o i pos) (gSub to ti t):=by
 intro pins s σ H v u Q I r h
 rw[ha]
 refine xc (xC (thn (ho pins s σ H _ I h) fun ov s1 hq1=>?_))
 obtain⟨x,H1,I1,r1,q1⟩:=hq1
 refine xc (xC (thn (hi pins s1 σ H1 _ I1 q1) fun iv s2 hq1=>?_))
 obtain⟨y,H2,I2,r2,q2⟩:=hq1
 refine xc (wpAny_standAt (xc (xC (thn (hs pins s2 σ H2 x y v ov iv u _ I2 r1 r2 r q2) fun _ s3 hq1=>?_))))
 obtain⟨H3,I3,q3⟩:=hq1
 exact wpAny_release ⟨σ,H3,I3,q3⟩
noncomputable def tAsg (te:TE) (g:TG):TS:=fun D σ H=>te σ H fun x H1=>g x σ H1 D.nx
theorem zV7 {tg e:Expr}{te:TE}{g:TG}(he:PE X e te) (hg:PG X tg g) (hs:swapsWithSole [tg] e pos.line X.env=pure false:=by rfl) (hw:swappedStores [tg] e X.env=pure none:=by rfl)
  (h1:(assignEach [tg] X.env).map (·.2)=[assign tg X.env]:=by rfl):PS X (.Assign [tg] e pos) (tAsg te g):=by
 intro pins s σ H D I h
 refine wpAny_Assign_stores (thn (he pins s σ H _ I h) fun v s1 hq1=>?_) hs hw
 obtain⟨x,H1,I1,r1,q1⟩:=hq1
 rw[h1]
 exact thn (hg pins s1 σ H1 x v _ I1 r1 q1) fun _ s2 q=>q
theorem zV2 {i:Nat}{x:Str}{e:Expr}{te:TE}{pos':Pos}(hN:X.N.Nodup) (hi:X.N[i]?=some x) (hx:Loc X.env.scope x) (he:PE X e te) (hs:swapsWith e (some (.Name x pos')) pos.line X.env=pure false:=by rfl) (hf:X.fn x=true\/X.env.scope.names.lookup x=some .local:=by first|exact .inl rfl|exact .inr rfl|assumption):
  PS X (.Assign [.Name x pos'] e pos) (tAsg te (gName i)):=by
 intro pins s σ H D I h
 refine wpAny_Assign_Name (thn (he pins s σ H _ I h) fun v s1 hq1=>?_) hs
 obtain⟨y,H1,I1,r1,q1⟩:=hq1
 exact zD3 I1 hN hi hx r1 (fun s2 I2=>⟨_,H1,I2,q1⟩) hf
noncomputable def tPar (i j:Nat) (ta:TA):TS:=fun D σ H=>ta σ H fun vs H1=>∃v w,vs=[v,w]/\D.nx ((σ.set i (some v)).set j (some w)) H1
theorem zV4 {i j:Nat}{x y:Str}{a b:Expr}{ta:TA}{px py pt:Pos}{kt k2 pt2} (hc:X.calm=true) (hN:X.N.Nodup) (hi:X.N[i]?=some x) (hj:X.N[j]?=some y) (hij:i≠j)
  (hx:X.env.scope.names.lookup x=some .local) (hy:X.env.scope.names.lookup y=some .local) (ha:PA X [a,b] ta)
  (hw:swappedStores [.Tuple [.Name x px,.Name y py] kt pt] (.Tuple [a,b] k2 pt2) X.env=pure (some [x,y]))
  (hs:swapsWithSole [.Tuple [.Name x px,.Name y py] kt pt] (.Tuple [a,b] k2 pt2) pos.line X.env=pure false:=by rfl):
  PS X (.Assign [.Tuple [.Name x px,.Name y py] kt pt] (.Tuple [a,b] k2 pt2) pos) (tPar i j ta):=by
 intro pins s σ H D I h
 rw[exec_Assign_arm]
 refine xc (wpAny_standAt ?_)
 rw[hs]
 refine xc (xf ?_)
 rw[xh (by decide)]
 refine xc (Tuple_ (thn (ha _ pins s σ H _ I h) fun us s1 hq1=>?_))
 obtain⟨vs,H1,I1,r1,q1⟩:=hq1
 obtain⟨v,w,e1,q1⟩:=q1
 subst e1
 obtain⟨u1,u2,rfl,rv,rw'⟩:∃u1 u2,us=[u1,u2]/\RelV v u1/\RelV w u2:=by
  cases r1 with
  | cons p q=>
   cases q with
   | cons p' q'=>
    cases q'
    exact⟨_,_,rfl,p,p'⟩
 refine ve ?_ (by show 2<=sizeLine;decide)
 have I2:Inv X pins σ H1 { s1 with heap:=s1.heap.push { cls:=.type "tuple",data:=.seq [u1,u2].toArray } }:=I1.kept (t':=s1.toks) fun b o e=>xm _ e
 rw[hw]
 refine xc (xf ?_)
 show wpAny (model X.prog X.w) X.A (do rule "assign.swapped-stores";let items <- unpackItems (.ref s1.heap.objs.size) 2 none;assignInOrder [fun v=>bindName X.env y v,fun v=>bindName X.env x v] items.reverse;pure Flow.next) _ _ _
 refine xc (xX (xc (unpackItems_tuple (items:=#[u1,u2]) (I.ok.hd hc) (IsTup.new s1.heap _) fun h' hx'=>?_)))
 have I3:=I2.kept (h':=h') (t':=s1.toks) fun b o e=>hx' b o (xr (xl e)) e
 show wpAny _ _ (assignInOrder [fun v=>bindName X.env y v,fun v=>bindName X.env x v] [u2,u1] >>= fun _=>pure Flow.next) _ _ _
 refine xc (assignInOrder_cons (wpAny_bindName (zD3 I3 hN hj (.inl hy) rw' (fun s2 I4=>?_) (.inr hy))))
 refine assignInOrder_cons (wpAny_bindName (zD3 I4 hN hi (.inl hx) rv (fun s3 I5=>assignInOrder_nil (xf ?_)) (.inr hx)))
 rw[List.set_comm _ _ (xw hij)]at I5
 exact⟨_,H1,I5,q1⟩
end
section
variable {X:Cx}{pos:Pos}
noncomputable def zPv (c:TT) (tb:TS):TS:=fun D σ H=>∃W:Nat->St->Hp->Prop,(∃m,W m σ H)/\∀m σ H,W m σ H->
 c σ H fun b H1=>if b=true then ∃N:St->Hp->Prop,(∀σ' H',N σ' H'->∃m',m'<m/\W m' σ' H')/\tb { D with nx:=N,ct:=N,bk:=D.nx } σ H1 else D.nx σ H1
theorem zO8 {c:Expr}{body:List Stmt}{tc:TT}{tb:TS}(hp:PassesOwn (model X.prog X.w) X.A X.env X.xe) (hc:PT X c tc) (hb:PSs X body tb):PS X (.While c body [] pos) (zPv tc tb):=by
 intro pins s σ H D I h
 obtain⟨W,⟨m0,w0⟩,turn⟩:=h
 refine wpAny_While (codeAny_whileLoop (fun n s'=>∃σ' H',Inv X pins σ' H' s'/\W n σ' H') ?_ m0 ⟨σ,H,I,w0⟩)
 rintro n s1 ⟨σ1,H1,I1,w1⟩
 refine ug hp (thn (hc pins s1 σ1 H1 _ I1 (turn n σ1 H1 w1)) fun b s2 hq1=>?_)
 obtain⟨H2,I2,q2⟩:=hq1
 cases b with
 | true=>
  obtain⟨N,hN,q2⟩:=q2
  rw[xg rfl]
  refine ug hp (thn (hb pins s2 σ1 H2 _ I2 q2) fun f s3 q3=>?_)
  cases f with
  | next=>
   obtain⟨σ3,H3,I3,n3⟩:=q3
   obtain⟨m',hm,w3⟩:=hN σ3 H3 n3
   exact⟨m',hm,σ3,H3,I3,w3⟩
  | cont=>
   obtain⟨σ3,H3,I3,n3⟩:=q3
   obtain⟨m',hm,w3⟩:=hN σ3 H3 n3
   exact⟨m',hm,σ3,H3,I3,w3⟩
  | brk=>exact q3
  | ret v=>exact q3
 | false=>
  rw[xh xY]
  exact wpAny_execs_nil ⟨σ1,H2,I2,q2⟩
end
structure It where
 go:Nat->Hp->Prop
 yld:Nat->Hp->V->Hp->Prop
 stop:Nat->Hp->Prop
noncomputable def FpOk (X:Cx) (pins:List (Addr × Obj)) (H:Hp) (b:Addr):Prop:=
 H b=none/\b≠X.env.locals/\b ∉ X.fs/\(b∈X.ex\/X.s₀.heap.objs.size<=b)/\(∀x c,X.env.cells.lookup x=some c->c≠b)/\∀p∈X.pn++pins,p.1≠b
theorem Inv.fpOk {X:Cx}{pins:List (Addr × Obj)}{σ:St}{H H':Hp}{s:Shared}{b:Addr}(I:Inv X pins σ H s) (hb:s.heap.objs.size<=b) (hn:H' b=none):FpOk X pins H' b:=by
 refine⟨hn,vR (xE I.lt hb),I.nofs hb,.inr (xp I.sz hb),fun x c e z=>?_,fun p hp z=>?_⟩
 ·obtain⟨v,q⟩:=I.cell x c e
  exact absurd (xE q.lt (by rw[z];exact hb)) (vn _)
 ·exact absurd (xE (xl (I.pin p hp).1) (by rw[z];exact hb)) (vn _)
structure Turn (P:Program) (w:World) (K:PySem.W.Frag) (tg:Expr) (J:It) (fp:List Addr) (it:Addr) (tn:Nat->Heap->Prop):Prop where
 mem:it∈fp
 obj:∀i h,tn i h->∀b∈fp,∃o,h.get? b=some o/\∀v,o.data≠.cell v
 keep:∀i h h',tn i h->(∀b∈fp,∀o,h.get? b=some o->h'.get? b=some o)->tn i h'
 item:∀(X:Cx),X.prog=P->X.w=w->X.K=K->X.calm=true->∀(i:Nat) (pins:List (Addr × Obj)) (s:Shared) (σ:St) (H:Hp) (E:Value->Shared->Prop),Inv X pins σ H s->(∀b∈fp,FpOk X pins H b)->tn i s.heap->J.go i H->
  wpAny (model P w) X.A (pyNext (.ref it)) (fun r s1=>∃u,r=some u /\
   wpAny (model P w) X.A (letOwnedTupleGo tg (.ref it) u) (fun _ s2=>∃x H',Inv X pins σ H' s2/\RelV x u/\J.yld i H x H'/\tn (i+1) s2.heap/\∀b∈fp,H' b=none) E s1) E s
 done:∀(X:Cx),X.prog=P->X.w=w->X.K=K->X.calm=true->∀(i:Nat) (pins:List (Addr × Obj)) (s:Shared) (σ:St) (H:Hp) (E:Value->Shared->Prop),Inv X pins σ H s->(∀b∈fp,FpOk X pins H b)->tn i s.heap->J.stop i H->
  wpAny (model P w) X.A (pyNext (.ref it)) (fun r s1=>r=none/\Inv X pins σ H s1) E s
 self:∀(A:Around) (i:Nat) (s:Shared) (Q:Value->Shared->Prop) (E:Value->Shared->Prop),tn i s.heap->Q (.ref it) s->wpAny (model P w) A (pyIter (.ref it)) Q E s
noncomputable abbrev TI:=St->Hp->(It->Hp->Prop)->Prop
noncomputable def PIE (X:Cx) (pins:List (Addr × Obj)) (σ:St) (tg:Expr) (R:It->Hp->Prop) (itv:Value) (s2:Shared):Prop:=
 ∃(it:Addr) (fp:List Addr) (tn:Nat->Heap->Prop) (J:It) (H':Hp),itv=.ref it/\Inv X pins σ H' s2/\Turn X.prog X.w X.K tg J fp it tn/\tn 0 s2.heap/\(∀b∈fp,FpOk X pins H' b)/\R J H'
noncomputable def PI (X:Cx) (tg iter:Expr) (wi:TI):Prop:=
 ∀(pins:List (Addr × Obj)) (s:Shared) (σ:St) (H:Hp) (R:It->Hp->Prop),Inv X pins σ H s->wi σ H R->
  wpAny (model X.prog X.w) X.A (eval iter X.env) (fun v s1=>wpAny (model X.prog X.w) X.A (pyIter v) (PIE X pins σ tg R) X.xe s1) X.xe s
theorem zP7 {M:Model}{A:Around}{E:Value->Shared->Prop}{s:Shared}{tg:Expr}{it:Addr}{u:Value}{o:Obj}{n:String}{vs:Array Value}{Q:Unit->Shared->Prop}(ho:s.heap.get? it=some o) (hc:o.cls=.type n) (hd:o.data=.fields vs)
    (hn:["enumerate","zip","dict_itemiterator","dict_reverseitemiterator","odict_iterator","itertools.zip_longest","itertools.pairwise"].contains n=false) (hQ:Q () s):wpAny M A (letOwnedTupleGo tg (.ref it) u) Q E s:=by
  unfold letOwnedTupleGo
  cases tg <;> first
    | exact xf hQ
    | (cases u <;> first
        | exact xf hQ
        | (refine xc (wpAny_load ho ?_)
           rw[hc,hd]
           show wpAny M A (if(["enumerate","zip","dict_itemiterator","dict_reverseitemiterator","odict_iterator","itertools.zip_longest","itertools.pairwise"].contains n && vs[0]? == some (rawInt _))=true then _ else _) Q E s
           rw[xh (by intro h;rw[hn,Bool.false_and]at h;cases h)]
           exact xf hQ))
noncomputable def Itl (K:PySem.W.Frag) (a:Addr):It:=
 ⟨fun i H=>∃xs x,SqL K H a xs/\xs[i]?=some x,fun i H x H'=>H'=H/\∀xs,SqL K H a xs->xs[i]?=some x,fun i H=>∃xs,SqL K H a xs/\xs.length<=i⟩
noncomputable def Itt (K:PySem.W.Frag) (a:Addr):It:=
 ⟨fun i H=>∃xs x,SqT K H a xs/\xs[i]?=some x,fun i H x H'=>H'=H/\∀xs,SqT K H a xs->xs[i]?=some x,fun i H=>∃xs,SqT K H a xs/\xs.length<=i⟩
noncomputable def Itr (lo:Int) (n:Nat):It:=⟨fun i _=>i<n,fun i H x H'=>H'=H/\x=.int (lo+i),fun i _=>n<=i⟩
theorem zK2 {P:Program}{w:World}{K:PySem.W.Frag}{tg:Expr}(a it:Addr):Turn P w K tg (Itl K a) [it] it (fun i h=>h.IsListIter it a i) where
 mem:=by simp
 obj:=fun i h st b hb=>by
  have e:b=it:=by simpa using hb
  subst e
  obtain⟨o,e,c,d⟩:=st
  exact⟨o,e,fun v z=>by rw[d]at z;cases z⟩
 keep:=fun i h h' st k=>st.at fun o e=>k it (by simp) o e
 item:=by
  intro X hP hw hK hc i pins s σ H E I hf st hg
  subst hP hw hK
  obtain⟨xs,x,hq,hx⟩:=hg
  obtain⟨its,rv,p,hz⟩:=I.list hq
  obtain⟨u,hu,ru⟩:=rv.get hx
  obtain⟨f0,f1,f2,f3,f4,f5⟩:=hf it (by simp)
  refine wpAny_pyNext_list_item st p.isList (x:=u) (by simpa using hu) fun h' st' sb=>?_
  have I1:Inv X pins σ H { s with heap:=h' }:=I.turned (t':=s.toks) (fun b o hb e=>(sb.2 b hb).trans e) f0 f1 f3 f4 f5
  obtain⟨o,e,c,d⟩:=id st'
  exact⟨u,rfl,zP7 (s:={ s with heap:=h' }) e c d (by decide) ⟨x,H,I1,ru,⟨rfl,fun ys hy=>by rw[I.list_inj hy hq];exact hx⟩,st',fun b hb=>(hf b hb).1⟩⟩
 done:=by
  intro X hP hw hK hc i pins s σ H E I hf st hg
  subst hP hw hK
  obtain⟨xs,hq,hx⟩:=hg
  obtain⟨its,rv,p,hz⟩:=I.list hq
  obtain⟨f0,f1,f2,f3,f4,f5⟩:=hf it (by simp)
  have hl:=rv.length
  exact wpAny_pyNext_list_end (I.ok.hd hc) st p.isList (by simp;lia) fun h' eb=>⟨rfl,I.turned (t':=s.toks) (fun b o hb e=>eb b o hb e) f0 f1 f3 f4 f5⟩
 self:=fun _ _ _ _ _ st h=>wpAny_pyIter_listiter st h
theorem zIy {P:Program}{w:World}{K:PySem.W.Frag}{tg:Expr}(a it:Addr):Turn P w K tg (Itt K a) [it] it (fun i h=>h.IsTupleIter it a i) where
 mem:=by simp
 obj:=fun i h st b hb=>by
  have e:b=it:=by simpa using hb
  subst e
  obtain⟨o,e,c,d⟩:=st
  exact⟨o,e,fun v z=>by rw[d]at z;cases z⟩
 keep:=fun i h h' st k=>st.at fun o e=>k it (by simp) o e
 item:=by
  intro X hP hw hK hc i pins s σ H E I hf st hg
  subst hP hw hK
  obtain⟨xs,x,hq,hx⟩:=hg
  obtain⟨its,rv,p,hz⟩:=I.tuple hq
  obtain⟨u,hu,ru⟩:=rv.get hx
  obtain⟨f0,f1,f2,f3,f4,f5⟩:=hf it (by simp)
  refine wpAny_pyNext_tuple_item st (show s.heap.IsTuple a its.toArray from p) (x:=u) (by simpa using hu) fun h' st' sb=>?_
  have I1:Inv X pins σ H { s with heap:=h' }:=I.turned (t':=s.toks) (fun b o hb e=>(sb.2 b hb).trans e) f0 f1 f3 f4 f5
  obtain⟨o,e,c,d⟩:=id st'
  exact⟨u,rfl,zP7 (s:={ s with heap:=h' }) e c d (by decide) ⟨x,H,I1,ru,⟨rfl,fun ys hy=>by rw[I.tuple_inj hy hq];exact hx⟩,st',fun b hb=>(hf b hb).1⟩⟩
 done:=by
  intro X hP hw hK hc i pins s σ H E I hf st hg
  subst hP hw hK
  obtain⟨xs,hq,hx⟩:=hg
  obtain⟨its,rv,p,hz⟩:=I.tuple hq
  obtain⟨f0,f1,f2,f3,f4,f5⟩:=hf it (by simp)
  have hl:=rv.length
  exact wpAny_pyNext_tuple_end (I.ok.hd hc) st (show s.heap.IsTuple a its.toArray from p) (by simp;lia) fun h' eb=>⟨rfl,I.turned (t':=s.toks) (fun b o hb e=>eb b o hb e) f0 f1 f3 f4 f5⟩
 self:=fun _ _ _ _ _ st h=>wpAny_pyIter_tupleiter st h
theorem zIz {P:Program}{w:World}{K:PySem.W.Frag}{tg:Expr}(it:Addr) (lo:Int) (n:Nat):Turn P w K tg (Itr lo n) [it] it (fun i h=>IsRangeIter h it (lo+(i:Nat)*1) ((n:Int)-(i:Nat)) 1) where
 mem:=by simp
 obj:=fun i h st b hb=>by
  have e:b=it:=by simpa using hb
  subst e
  exact⟨_,st,fun v z=>by
   have z':Data.fields _=Data.cell v:=z
   cases z'⟩
 keep:=fun i h h' st k=>k it (by simp) _ st
 item:=by
  intro X hP hw hK hc i pins s σ H E I hf st hg
  subst hP hw hK
  obtain⟨f0,f1,f2,f3,f4,f5⟩:=hf it (by simp)
  have W:=Walks.range (prog:=X.prog) (w:=X.w) (I.ok.hd hc) it lo 1 n
  refine W.item i s _ _ hg st fun v h' tk hv st' kk=>?_
  obtain⟨t,rfl⟩:=hv
  have I1:Inv X pins σ H { s with heap:=h',toks:=tk }:=I.turned (fun b o hb e=>kk b o (by simpa using hb) e) f0 f1 f3 f4 f5
  refine⟨_,rfl,zP7 (s:={ s with heap:=h',toks:=tk }) (n:="range_iterator") st' rfl rfl (by decide) ⟨.int (lo+i),H,I1,⟨t,?_⟩,⟨rfl,rfl⟩,st',fun b hb=>(hf b hb).1⟩⟩
  rw[Int.mul_one]
 done:=by
  intro X hP hw hK hc i pins s σ H E I hf st hg
  subst hP hw hK
  obtain⟨f0,f1,f2,f3,f4,f5⟩:=hf it (by simp)
  exact wpAny_pyNext_range_end (I.ok.hd hc) st (by have:n<=i:=hg;lia) fun h' eb=>⟨rfl,I.turned (t':=s.toks) (fun b o hb e=>eb b o hb e) f0 f1 f3 f4 f5⟩
 self:=fun _ _ _ _ _ st h=>wpAny_pyIter_rangeiter st h
end L2
namespace L2
open PySem PySem.Spec PyProof.Rows
section
variable {X:Cx}{tg:Expr}
theorem zNy {pins:List (Addr × Obj)}{σ:St}{H:Hp}{s:Shared}{R:It->Hp->Prop}{E:Value->Shared->Prop}{lo hi:Int}{t u v:Tok}{tk:Nat}(I:Inv X pins σ H s) (h1:-(2 ^ 62)<=lo) (h2:lo<2 ^ 62) (h3:-(2 ^ 62)<=hi) (h4:hi<2 ^ 62)
  (q:R (Itr lo (hi-lo).toNat) H):wpAny (model X.prog X.w) X.A (pyIter (.ref s.heap.objs.size)) (PIE X pins σ tg R) E { s with heap:=s.heap.push { cls:=.type "range",data:=.fields #[.int lo t,.int hi u,.int 1 v] },toks:=tk }:=by
 refine wpAny_pyIter_range (IsRange.new ..) (small_one h1 h2 h3 h4) ?_
 have I1:Inv X pins σ H { s with heap:=s.heap.push { cls:=.type "range",data:=.fields #[.int lo t,.int hi u,.int 1 v] },toks:=tk }:=I.kept fun b o e=>xm _ e
 refine⟨(s.heap.push { cls:=.type "range",data:=.fields #[.int lo t,.int hi u,.int 1 v] }).objs.size,[(s.heap.push { cls:=.type "range",data:=.fields #[.int lo t,.int hi u,.int 1 v] }).objs.size],_,_,H,rfl,
  I1.kept (t':=tk) fun b o e=>xm _ e,zIz _ lo (hi-lo).toNat,?_,fun b hb=>?_,q⟩
 ·have e1:lo+((0:Nat):Int)*1=lo:=by simp
  have e2:(((hi-lo).toNat:Nat):Int)-((0:Nat):Int)=Builtin.Range.rangeSize lo hi 1:=by rw[rangeSize_one];split <;> lia
  show IsRangeIter _ _ (lo+((0:Nat):Int)*1) ((((hi-lo).toNat:Nat):Int)-((0:Nat):Int)) 1
  rw[e1,e2]
  exact xD _ rfl
 ·have e:b=(s.heap.push { cls:=.type "range",data:=.fields #[.int lo t,.int hi u,.int 1 v] }).objs.size:=by simpa using hb
  subst e
  exact I1.fpOk (xi _) (I1.hok.fresh (xi _))
noncomputable def zSz (ta:TA):TI:=fun σ H R=>ta σ H fun vs H1=>∃j:Int,vs=[.int j]/\-(2 ^ 62)<=j/\j<2 ^ 62/\R (Itr 0 j.toNat) H1
theorem zL1 {a:Expr}{ta:TA}{p pos:Pos}(hg:Gl X "range") (hm:X.mg "range"=none) (ha:PA X [a] ta) (hs:starEach [a] X.env=[(false,eval a X.env)]:=by rfl):PI X tg (.Call (.Name "range" p) [a] [] pos) (zSz ta):=by
 intro pins s σ H R I h
 refine Call_ (zBm I hg hm boot_range (v3 (thn (ha pos pins s σ H _ I h) fun us s1 hq1=>?_) hs rfl))
 obtain⟨vs,H1,I1,r1,q1⟩:=hq1
 obtain⟨j,e,q1,q2,q⟩:=q1
 subst e
 cases r1 with
 | cons r rr=>
  cases rr
  obtain⟨t,rfl⟩:=r
  exact call_range_1 (zNy I1 (by nofun) (by nofun) q1 q2 (by simpa using q))
noncomputable def tFor (wi:TI) (g:TG) (tb:TS):TS:=fun D σ H=>wi σ H fun J H1=>∃W:Nat->Nat->St->Hp->Prop,(∃m,W 0 m σ H1)/\∀i m σ H,W i m σ H->
 (J.stop i H/\D.nx σ H)\/(J.go i H/\∃N:St->Hp->Prop,(∀σ' H',N σ' H'->∃m',m'<m/\W (i+1) m' σ' H')/\∀x H',J.yld i H x H'->g x σ H' fun σ2 H2=>tb { D with nx:=N,ct:=N,bk:=D.nx } σ2 H2)
noncomputable def zG1 (fp:List Addr) (h:Heap):List (Addr × Obj):=fp.filterMap fun b=>(h.get? b).map fun o=>(b,o)
theorem zBc {fp:List Addr}{h:Heap}{b:Addr}{o:Obj}(hb:b∈fp) (e:h.get? b=some o):(b,o)∈zG1 fp h:=uB.mpr ⟨b,hb,by rw[e];rfl⟩
theorem zLc {fp:List Addr}{h:Heap}{p:Addr × Obj}(hp:p∈zG1 fp h):p.1∈fp/\h.get? p.1=some p.2:=by
 obtain⟨b,hb,e⟩:=uB.mp hp
 cases q:h.get? b with
 | none=>rw[q]at e;cases e
 | some o=>
  rw[q]at e
  have e':(b,o)=p:=xP e
  subst e'
  exact⟨hb,q⟩
theorem Inv.pinned {pins:List (Addr × Obj)}{σ:St}{H:Hp}{s:Shared}{fp:List Addr}(I:Inv X pins σ H s) (hf:∀b∈fp,FpOk X pins H b) (ho:∀b∈fp,∃o,s.heap.get? b=some o/\∀v,o.data≠.cell v):Inv X (pins++zG1 fp s.heap) σ H s:=
 I.pins_of fun p hp=>(xV.mp hp).elim (fun z=>I.pin p (xI _ z)) fun z=>by
  obtain⟨hb,e⟩:=zLc z
  obtain⟨f0,f1,f2,_⟩:=hf p.1 hb
  obtain⟨o,e',d⟩:=ho p.1 hb
  rw[e]at e';cases e'
  exact⟨e,f0,f1,f2,d⟩
theorem Inv.unpinned {pins pl:List (Addr × Obj)}{σ:St}{H:Hp}{s:Shared}(I:Inv X (pins++pl) σ H s):Inv X pins σ H s:=I.pins_of fun p hp=>I.pin p (xI _ (vC _ hp))
theorem zV6 {iter:Expr}{body:List Stmt}{wi:TI}{g:TG}{tb:TS}{pos:Pos}(hp:PassesOwn (model X.prog X.w) X.A X.env X.xe) (hc:X.calm=true) (hi:PI X tg iter wi) (hg:PG X tg g) (hb:PSs X body tb)
  (hs:∀x,foldedSetIterable iter X.env x=pure x:=by intro _;rfl):PS X (.For tg iter body [] pos) (tFor wi g tb):=by
 intro pins s σ H D I h
 refine wpAny_For (thn (hi pins s σ H _ I h) fun v s1 h1=>thn h1 fun itv s2 h2=>?_) hs
 obtain⟨it,fp,tn,J,H2,e,I2,T,st2,f2,W,⟨m0,w0⟩,turn⟩:=h2
 subst e
 -- what stays true of the iterator's objects through the loop
 have stat:∀{H':Hp},(∀b∈fp,H' b=none)->∀b∈fp,FpOk X pins H' b:=fun hn b hb=>⟨hn b hb,(f2 b hb).2⟩
 refine codeAny_forLoop_any (fun n s'=>∃i σ' H',Inv X pins σ' H' s'/\tn i s'.heap/\(∀b∈fp,H' b=none)/\W i n σ' H') ?_ m0 ⟨0,σ,H2,I2,st2,fun b hb=>(f2 b hb).1,w0⟩
 rintro n s3 ⟨i,σ3,H3,I3,st3,fr3,w3⟩
 rcases turn i n σ3 H3 w3 with⟨stop,qn⟩|⟨go,N,hN,step⟩
 ·refine ug hp (thn (T.done X rfl rfl rfl hc i pins s3 σ3 H3 X.xe I3 (stat fr3) st3 stop) fun r s4 hq1=>?_)
  obtain⟨hr,I4⟩:=hq1
  subst hr
  exact wpAny_execs_nil ⟨σ3,H3,I4,qn⟩
 ·refine ug hp (thn (T.item X rfl rfl rfl hc i pins s3 σ3 H3 X.xe I3 (stat fr3) st3 go) fun r s4 hq1=>?_)
  obtain⟨u,hr,h4⟩:=hq1
  subst hr
  refine ug hp (thn h4 fun _ s5 hq1=>?_)
  obtain⟨x,H5,I5,r5,y5,st5,fr5⟩:=hq1
  have I5':=I5.pinned (stat fr5) (T.obj _ _ st5)
  refine ug hp (thn (hg _ s5 σ3 H5 x u _ I5' r5 (step x H5 y5)) fun _ s6 hq1=>?_)
  obtain⟨σ6,H6,I6,q6⟩:=hq1
  refine ug hp (thn (hb _ s6 σ6 H6 _ I6 q6) fun f s7 q7=>?_)
  have again:∀{σ7:St}{H7:Hp},Inv X (pins++zG1 fp s5.heap) σ7 H7 s7->N σ7 H7->∃m,m<n/\∃i σ' H',Inv X pins σ' H' s7/\tn i s7.heap/\(∀b∈fp,H' b=none)/\W i m σ' H':=fun {σ7 H7} I7 n7=>by
   obtain⟨m',hm,w7⟩:=hN σ7 H7 n7
   refine⟨m',hm,i+1,σ7,H7,I7.unpinned,T.keep _ _ _ st5 fun b hb o e=>(I7.pin (b,o) (xI _ (xI _ (zBc hb e)))).1,fun b hb=>?_,w7⟩
   obtain⟨o,e,d⟩:=T.obj _ _ st5 b hb
   exact(I7.pin (b,o) (xI _ (xI _ (zBc hb e)))).2.1
  cases f with
  | next=>obtain⟨σ7,H7,I7,n7⟩:=q7;exact again I7 n7
  | cont=>obtain⟨σ7,H7,I7,n7⟩:=q7;exact again I7 n7
  | brk=>obtain⟨σ7,H7,I7,q7⟩:=q7;exact⟨σ7,H7,I7.unpinned,q7⟩
  | ret v=>obtain⟨x7,σ7,H7,I7,r7,q7⟩:=q7;exact⟨x7,σ7,H7,I7.unpinned,r7,q7⟩
end
end L2
namespace L2
open PySem PySem.Spec PyProof.Rows
noncomputable abbrev R2:=V->V->Hp->VK->Prop
noncomputable def OpR (X:Cx) (f:Value->Value->Sem Value) (r:R2):Prop:=
 ∀(pins:List (Addr × Obj)) (s:Shared) (σ:St) (H:Hp) (x y:V) (v u:Value) (Q:VK),Inv X pins σ H s->RelV x v->RelV y u->r x y H Q->
  wpAny (model X.prog X.w) X.A (f v u) (EP X pins σ Q) X.xe s
noncomputable def UnR (X:Cx) (f:Value->Sem Value) (r:V->Hp->VK->Prop):Prop:=
 ∀(pins:List (Addr × Obj)) (s:Shared) (σ:St) (H:Hp) (x:V) (v:Value) (Q:VK),Inv X pins σ H s->RelV x v->r x H Q->
  wpAny (model X.prog X.w) X.A (f v) (EP X pins σ Q) X.xe s
noncomputable def zAx (X:Cx) (f:Value) (r:List V->Hp->VK->Prop):Prop:=
 ∀(pins:List (Addr × Obj)) (s:Shared) (σ:St) (H:Hp) (xs:List V) (us:List Value) (Q:VK),Inv X pins σ H s->Vals xs us->r xs H Q->
  wpAny (model X.prog X.w) X.A (call f us) (EP X pins σ Q) X.xe s
noncomputable def TruR (X:Cx) (r:V->Hp->(Bool->Hp->Prop)->Prop):Prop:=
 ∀(pins:List (Addr × Obj)) (s:Shared) (σ:St) (H:Hp) (x:V) (v:Value) (Q:Bool->Hp->Prop),Inv X pins σ H s->RelV x v->r x H Q->
  wpAny (model X.prog X.w) X.A (truthy v) (TP X pins σ Q) X.xe s
noncomputable def tOp (r:R2) (ta tb:TE):TE:=fun σ H Q=>ta σ H fun x H1=>tb σ H1 fun y H2=>r x y H2 Q
noncomputable def tUn (r:V->Hp->VK->Prop) (ta:TE):TE:=fun σ H Q=>ta σ H fun x H1=>r x H1 Q
noncomputable def rI (C:Int->Int->Prop) (g:Int->Int->V):R2:=fun x y H Q=>∃i j,x=.int i/\y=.int j/\C i j/\Q (g i j) H
noncomputable def rI0 (g:Int->Int->V):R2:=fun x y H Q=>∃i j,x=.int i/\y=.int j/\Q (g i j) H
noncomputable def rU (g:Int->V):V->Hp->VK->Prop:=fun x H Q=>∃i,x=.int i/\Q (g i) H
section
variable {X:Cx}{a b c:Expr}{ta tb tc:TE}{pos:Pos}
theorem binT (ha:PE X a ta) (hb:PE X b tb) {pins:List (Addr × Obj)}{s:Shared}{σ:St}{H:Hp}{R:V->V->Hp->Prop}(I:Inv X pins σ H s)
  (h:ta σ H fun x H1=>tb σ H1 fun y H2=>R x y H2) {Q:Value->Shared->Prop}{f:Value->Value->Sem Value}
  (hf:∀v u s2 x y H2,Inv X pins σ H2 s2->RelV x v->RelV y u->R x y H2->wpAny (model X.prog X.w) X.A (f v u) Q X.xe s2):
  wpAny (model X.prog X.w) X.A (eval a X.env) (fun v s₁=>wpAny (model X.prog X.w) X.A (eval b X.env) (fun u s₂=>wpAny (model X.prog X.w) X.A (f v u) Q X.xe s₂) X.xe s₁) X.xe s:=by
 refine thn (ha pins s σ H _ I h) fun v s1 hq1=>?_
 obtain⟨x,H1,I1,r1,q1⟩:=hq1
 refine thn (hb pins s1 σ H1 _ I1 q1) fun u s2 hq1=>?_
 obtain⟨y,H2,I2,r2,q2⟩:=hq1
 exact hf v u s2 x y H2 I2 r1 r2 q2
theorem zYf {op:Operator}{r:R2}(ho:OpR X (binaryOp op) r) (ha:PE X a ta) (hb:PE X b tb):PE X (.BinOp a op b pos) (tOp r ta tb):=by
 intro pins s σ H Q I h
 exact wpAny_BinOp (binT ha hb I h fun v u s2 x y H2 I2 rx ry q=>ho pins s2 σ H2 x y v u Q I2 rx ry q)
theorem zYe {op:UnaryOp}{r:V->Hp->VK->Prop}(ho:UnR X (unaryOp op) r) (ha:PE X a ta):PE X (.UnaryOp op a pos) (tUn r ta):=by
 intro pins s σ H Q I h
 exact UnaryOp_ (thn (ha pins s σ H _ I h) fun v s1 hz3=>by obtain⟨x,H1,I1,r1,q1⟩:=hz3;exact ho pins s1 σ H1 x v Q I1 r1 q1)
theorem opI {f:Value->Value->Sem Value}{C:Int->Int->Prop}{g:Int->Int->Int}
  (rule:∀(i j:Int) (t u:Tok) (s:Shared) (Q:Value->Shared->Prop) (E:Value->Shared->Prop),C i j->Q (.int (g i j) s.toks) { s with toks:=s.toks+1 }->wpAny (model X.prog X.w) X.A (f (.int i t) (.int j u)) Q E s):
  OpR X f (rI C fun i j=>.int (g i j)):=by
 intro pins s σ H x y v u Q I rx ry h
 obtain⟨i,j,rfl,rfl,hc,q⟩:=h
 obtain⟨t,rfl⟩:=rx
 obtain⟨t',rfl⟩:=ry
 exact rule i j t t' s _ _ hc ⟨.int (g i j),H,I.tok _,⟨_,rfl⟩,q⟩
theorem opI0 {f:Value->Value->Sem Value}{g:Int->Int->Int}
  (rule:∀(i j:Int) (t u:Tok) (s:Shared) (Q:Value->Shared->Prop) (E:Value->Shared->Prop),Q (.int (g i j) s.toks) { s with toks:=s.toks+1 }->wpAny (model X.prog X.w) X.A (f (.int i t) (.int j u)) Q E s):
  OpR X f (rI0 fun i j=>.int (g i j)):=by
 intro pins s σ H x y v u Q I rx ry h
 obtain⟨i,j,rfl,rfl,q⟩:=h
 obtain⟨t,rfl⟩:=rx
 obtain⟨t',rfl⟩:=ry
 exact rule i j t t' s _ _ ⟨.int (g i j),H,I.tok _,⟨_,rfl⟩,q⟩
theorem opB0 {f:Value->Value->Sem Value}{g:Int->Int->Bool}
  (rule:∀(i j:Int) (t u:Tok) (s:Shared) (Q:Value->Shared->Prop) (E:Value->Shared->Prop),Q (.bool (g i j)) s->wpAny (model X.prog X.w) X.A (f (.int i t) (.int j u)) Q E s):
  OpR X f (rI0 fun i j=>.bl (g i j)):=by
 intro pins s σ H x y v u Q I rx ry h
 obtain⟨i,j,rfl,rfl,q⟩:=h
 obtain⟨t,rfl⟩:=rx
 obtain⟨t',rfl⟩:=ry
 exact rule i j t t' s _ _ ⟨.bl (g i j),H,I,rfl,q⟩
noncomputable def CPow (i j:Int):Prop:=0<=j/\j<=1000000/\i.natAbs<2 ^ 64
theorem zVw:OpR X (binaryOp .Add) (rI0 fun i j=>.int (i+j)):=opI0 fun _ _ _ _ _ _ _ q=>add_int q
theorem zVq:OpR X (binaryOp .Sub) (rI0 fun i j=>.int (i-j)):=opI0 fun _ _ _ _ _ _ _ q=>sub_int q
theorem zVs:OpR X (binaryOp .Mod) (rI (fun _ j=>0<j) fun i j=>.int (i % j)):=opI fun i j _ _ _ _ _ hc q=>by
 have h1:(0:Int)<j:=hc
 exact mod_int' (by nofun) (by rw[Int.fmod_eq_emod_of_nonneg i (by nofun)];exact q)
theorem zVr:OpR X (binaryOp .Pow) (rI CPow fun i j=>.int (i ^ j.toNat)):=opI fun _ _ _ _ _ _ _ hc q=>pow_int_small hc.1 hc.2.1 hc.2.2 q
theorem unI {f:Value->Sem Value}{g:Int->Int}
  (rule:∀(i:Int) (t:Tok) (s:Shared) (Q:Value->Shared->Prop) (E:Value->Shared->Prop),Q (.int (g i) s.toks) { s with toks:=s.toks+1 }->wpAny (model X.prog X.w) X.A (f (.int i t)) Q E s):
  UnR X f (rU fun i=>.int (g i)):=by
 intro pins s σ H x v Q I rx h
 obtain⟨i,rfl,q⟩:=h
 obtain⟨t,rfl⟩:=rx
 exact rule i t s _ _ ⟨.int (g i),H,I.tok _,⟨_,rfl⟩,q⟩
theorem zUd:UnR X (unaryOp .USub) (rU fun i=>.int (-i)):=unI fun _ _ _ _ _ q=>neg_int q
end
noncomputable def scal:V->V->Bool
 | .non,.non=>true|.non,.int _=>true|.int _,.non=>true|.non,.bl _=>true|.bl _,.non=>true|.non,.str _=>true|.str _,.non=>true
 | .int _,.int _=>true|.bl _,.bl _=>true|.str _,.str _=>true|.byt _,.byt _=>true
 | .int _,.str _=>true|.str _,.int _=>true|.bl _,.str _=>true|.str _,.bl _=>true
 | _,_=>false
noncomputable def rEq:R2:=fun x y H Q=>scal x y=true/\Q (.bl (decide (x=y))) H
noncomputable def rNe:R2:=fun x y H Q=>scal x y=true/\Q (.bl (!decide (x=y))) H
theorem zMl {i j:Int}:decide (V.int i=V.int j)=(i == j):=by
 rw[v5]
 simp
theorem zQn {i j:Bool}:decide (V.bl i=V.bl j)=(i == j):=by
 rw[v5]
 simp
theorem zMk {i j:Str}:decide (V.str i=V.str j)=(i == j):=by
 rw[v5]
 simp
theorem zMm {i j:Array UInt8}:decide (V.byt i=V.byt j)=(i.toList == j.toList):=by
 rw[v5]
 cases i
 cases j
 simp
section
variable {X:Cx}{a b c:Expr}{ta tb tc:TE}{pos:Pos}
theorem zAb {pins:List (Addr × Obj)}{σ:St}{H:Hp}{s:Shared}{Q:VK}{k k':Bool}(I:Inv X pins σ H s) (q:Q (.bl k) H) (e:k=k'):EP X pins σ Q (.bool k') s:=by
 subst e
 exact⟨.bl k,H,I,rfl,q⟩
theorem zSf:OpR X (compareOp .Eq) rEq:=by
 intro pins s σ H x y v u Q I rx ry h
 obtain⟨hs,q⟩:=h
 cases x with
 | non=>
  cases rx
  cases y with
  | non=>cases ry;exact PySem.EqNone.eq_none_none (zAb I q (by simp))
  | bl j=>cases ry;exact PySem.EqNone.eq_none_bool (zAb I q (by simp))
  | int j=>obtain⟨t',rfl⟩:=ry;exact PySem.EqNone.eq_none_int (zAb I q (by simp))
  | str j=>obtain⟨t',rfl⟩:=ry;exact PySem.EqNone.eq_none_str (zAb I q (by simp))
  | _=>exact absurd (show false=true from hs) xY
 | bl i=>
  cases rx
  cases y with
  | non=>cases ry;exact PySem.EqNone.eq_bool_none (zAb I q (by simp))
  | bl j=>cases ry;exact eq_bool (zAb I q zQn)
  | str j=>obtain⟨t',rfl⟩:=ry;exact PySem.EqMixed.eq_bool_str (zAb I q (by simp))
  | _=>exact absurd (show false=true from hs) xY
 | int i=>
  obtain⟨t,rfl⟩:=rx
  cases y with
  | non=>cases ry;exact PySem.EqNone.eq_int_none (zAb I q (by simp))
  | int j=>obtain⟨t',rfl⟩:=ry;exact eq_int (zAb I q zMl)
  | str j=>obtain⟨t',rfl⟩:=ry;exact PySem.EqMixed.eq_int_str (zAb I q (by simp))
  | _=>exact absurd (show false=true from hs) xY
 | str i=>
  obtain⟨t,rfl⟩:=rx
  cases y with
  | non=>cases ry;exact PySem.EqNone.eq_str_none (zAb I q (by simp))
  | bl j=>cases ry;exact PySem.EqMixed.eq_str_bool (zAb I q (by simp))
  | int j=>obtain⟨t',rfl⟩:=ry;exact PySem.EqMixed.eq_str_int (zAb I q (by simp))
  | str j=>obtain⟨t',rfl⟩:=ry;exact eq_str (zAb I q zMk)
  | _=>exact absurd (show false=true from hs) xY
 | byt i=>
  obtain⟨t,rfl⟩:=rx
  cases y with
  | byt j=>obtain⟨t',rfl⟩:=ry;exact PySem.W.eq_bytes (zAb I q zMm)
  | _=>exact absurd (show false=true from hs) xY
 | _=>cases y <;> exact absurd (show false=true from hs) xY
theorem zSa:OpR X (compareOp .NotEq) rNe:=by
 intro pins s σ H x y v u Q I rx ry h
 obtain⟨hs,q⟩:=h
 cases x with
 | non=>
  cases rx
  cases y with
  | non=>cases ry;exact PySem.EqNone.ne_none_none (zAb I q (by simp))
  | bl j=>cases ry;exact PySem.EqNone.ne_none_bool (zAb I q (by simp))
  | int j=>obtain⟨t',rfl⟩:=ry;exact PySem.EqNone.ne_none_int (zAb I q (by simp))
  | str j=>obtain⟨t',rfl⟩:=ry;exact PySem.EqNone.ne_none_str (zAb I q (by simp))
  | _=>exact absurd (show false=true from hs) xY
 | bl i=>
  cases rx
  cases y with
  | non=>cases ry;exact PySem.EqNone.ne_bool_none (zAb I q (by simp))
  | bl j=>cases ry;exact ne_bool (zAb I q (congrArg not zQn))
  | str j=>obtain⟨t',rfl⟩:=ry;exact PySem.EqMixed.ne_bool_str (zAb I q (by simp))
  | _=>exact absurd (show false=true from hs) xY
 | int i=>
  obtain⟨t,rfl⟩:=rx
  cases y with
  | non=>cases ry;exact PySem.EqNone.ne_int_none (zAb I q (by simp))
  | int j=>obtain⟨t',rfl⟩:=ry;exact ne_int (zAb I q (congrArg not zMl))
  | str j=>obtain⟨t',rfl⟩:=ry;exact PySem.EqMixed.ne_int_str (zAb I q (by simp))
  | _=>exact absurd (show false=true from hs) xY
 | str i=>
  obtain⟨t,rfl⟩:=rx
  cases y with
  | non=>cases ry;exact PySem.EqNone.ne_str_none (zAb I q (by simp))
  | bl j=>cases ry;exact PySem.EqMixed.ne_str_bool (zAb I q (by simp))
  | int j=>obtain⟨t',rfl⟩:=ry;exact PySem.EqMixed.ne_str_int (zAb I q (by simp))
  | str j=>obtain⟨t',rfl⟩:=ry;exact ne_str (zAb I q (congrArg not zMk))
  | _=>exact absurd (show false=true from hs) xY
 | byt i=>
  obtain⟨t,rfl⟩:=rx
  cases y with
  | byt j=>obtain⟨t',rfl⟩:=ry;exact PySem.W.ne_bytes (zAb I q (congrArg not zMm))
  | _=>exact absurd (show false=true from hs) xY
 | _=>cases y <;> exact absurd (show false=true from hs) xY
theorem zYj:OpR X (compareOp .Lt) (rI0 fun i j=>.bl (decide (i<j))):=opB0 fun _ _ _ _ _ _ _ q=>lt_int q
theorem zYk:OpR X (compareOp .Gt) (rI0 fun i j=>.bl (decide (j<i))):=opB0 fun _ _ _ _ _ _ _ q=>gt_int q
theorem zYl:OpR X (compareOp .GtE) (rI0 fun i j=>.bl (decide (j<=i))):=opB0 fun _ _ _ _ _ _ _ q=>ge_int q
theorem zL9:OpR X (compareOp .Lt) (fun x y H Q=>∃i j,x=.str i/\y=.str j/\Q (.bl (decide (i.cps.toList<j.cps.toList))) H):=by
 intro pins s σ H x y v u Q I rx ry h
 obtain⟨i,j,rfl,rfl,q⟩:=h
 obtain⟨t,rfl⟩:=rx
 obtain⟨t',rfl⟩:=ry
 exact lt_str (zAb I q rfl)
theorem nomark (b:Expr) {op:CmpOp}(h:op≠.In:=by decide) (h2:op≠.NotIn:=by decide):behindInMarks op b=false:=by
 have e1:(op == CmpOp.In)=false:=by cases op <;> first|rfl|exact absurd rfl h
 have e2:(op == CmpOp.NotIn)=false:=by cases op <;> first|rfl|exact absurd rfl h2
 cases b <;> simp[behindInMarks,e1,e2]
theorem zS0 {op:CmpOp}{r:R2}(ho:OpR X (compareOp op) r) (ha:PE X a ta) (hb:PE X b tb) (hm:behindInMarks op b=false):PE X (.Compare a [op] [b] pos) (tOp r ta tb):=by
 intro pins s σ H Q I h
 exact wpAny_Compare1 (binT ha hb I h fun v u s2 x y H2 I2 rx ry q=>ho pins s2 σ H2 x y v u Q I2 rx ry q) hm
noncomputable def zUh (t:TE):TT:=fun σ H Q=>t σ H fun x H'=>∃k,x=.bl k/\Q k H'
theorem zRj {op:CmpOp}{r:R2}(ho:OpR X (compareOp op) r) (ha:PE X a ta) (hb:PE X b tb) (hm:behindInMarks op b=false):PT X (.Compare a [op] [b] pos) (zUh (tOp r ta tb)):=by
 intro pins s σ H Q I h
 refine wpAny_isTrue_Compare1 (thn (ha pins s σ H _ I h) fun v s1 ⟨x,H1,I1,r1,q1⟩=>thn (hb pins s1 σ H1 _ I1 q1) fun u s2 ⟨y,H2,I2,r2,q2⟩=>
  thn (ho pins s2 σ H2 x y v u _ I2 r1 r2 q2) fun c s3 ⟨z,H3,I3,r3,k,e,q3⟩=>?_) hm
 subst e
 cases r3
 exact vZ ⟨H3,I3,q3⟩
noncomputable def TruV (K:PySem.W.Frag) (x:V) (H:Hp) (k:Bool):Prop:=
 match x with
 | .non=>k=false
 | .bl b=>k=b
 | .int i=>k=(i != 0)
 | .str y=>y.length<=sizeLine/\k=((y.length:Int) != 0)
 | .byt y=>y.size<=sizeLine/\k=((y.size:Int) != 0)
 | .ref p=>(∃xs,SqL K H p xs/\k=!xs.isEmpty)\/(∃xs,SqT K H p xs/\k=!xs.isEmpty)\/∃kvs,H p=some (.dK kvs)/\k=!kvs.isEmpty
 | _=>False
theorem zJa {κ:Type}{kvs:List (κ × V)}{vs:List (κ × Value)}(r:KV kvs vs):(!vs.isEmpty)=!kvs.isEmpty:=by
 cases r <;> rfl
theorem zEe {xs:List V}{its:List Value}(r:Vals xs its):(!its.toArray.isEmpty)=!xs.isEmpty:=by
 cases r <;> simp
theorem line63:(sizeLine:Nat)<2 ^ 63:=by rw[xZ];decide
theorem zUg:TruR X (fun x H Q=>∃k,TruV X.K x H k/\Q k H):=by
 intro pins s σ H x v Q I rx h
 obtain⟨k,e,q⟩:=h
 have hl:=line63
 have hs:sizeLine=16777216:=xZ
 cases x with
 | non=>
  cases rx
  have e':k=false:=e
  subst e'
  exact truthy_none ⟨H,I,q⟩
 | bl b=>
  cases rx
  have e':k=b:=e
  subst e'
  exact vZ ⟨H,I,q⟩
 | int i=>
  obtain⟨t,rfl⟩:=rx
  have e':k=(i != 0):=e
  subst e'
  exact PySem.P.truthy_int ⟨H,I,q⟩
 | str y=>
  obtain⟨t,rfl⟩:=rx
  obtain⟨hy,e'⟩:y.length<=sizeLine/\k=((y.length:Int) != 0):=e
  subst e'
  exact PySem.P.truthy_str (by nofun) ⟨H,I.tok _,q⟩
 | byt y=>
  obtain⟨t,rfl⟩:=rx
  obtain⟨hy,e'⟩:y.size<=sizeLine/\k=((y.size:Int) != 0):=e
  subst e'
  exact PySem.W.truthy_bytes (by nofun) ⟨H,I.tok _,q⟩
 | ref p=>
  cases rx
  have e':(∃xs,SqL X.K H p xs/\k=!xs.isEmpty)\/(∃xs,SqT X.K H p xs/\k=!xs.isEmpty)\/∃kvs,H p=some (.dK kvs)/\k=!kvs.isEmpty:=e
  rcases e' with⟨xs,hx,e'⟩|⟨xs,hx,e'⟩|⟨kvs,hx,e'⟩
  ·subst e'
   obtain⟨its,r,pl,hz⟩:=I.list hx
   have hlen:=r.length
   exact wpAny_truthy_list pl.isList (by simp only[xq];lia) ⟨H,I.tok _,by rw[zEe r];exact q⟩
  ·subst e'
   obtain⟨its,r,pl,hz⟩:=I.tuple hx
   have hlen:=r.length
   exact truthy_tuple pl (by simp only[xq];lia) ⟨H,I.tok _,by rw[zEe r];exact q⟩
  ·subst e'
   obtain⟨hz,hS,vs,r,m⟩:kvs.length<=sizeLine/\(p == sysModules)=false/\∃vs,KV kvs vs/\s.heap.DictOf (zAn X.prog X.w) p vs:=I.hok p _ hx
   have hlen:kvs.length=vs.length:=Paired.length r
   exact wpAny_truthy_dict hS m (by nofun) ⟨H,I.tok _,by rw[zJa r];exact q⟩
 | _=>exact(show False from e).elim
theorem zO4 (ha:PE X a ta) (he:∀whole,isTrue a X.env whole=(do let v <- whole;standAt a.pos;holding [v] (truthy v))):
  PT X a (fun σ H Q=>ta σ H fun x H'=>∃k,TruV X.K x H' k/\Q k H'):=by
 intro pins s σ H Q I h
 exact isTrue_plain (thn (ha pins s σ H _ I h) fun v s1 hz4=>by obtain⟨x,H1,I1,r1,q1⟩:=hz4;exact zUg pins s1 σ H1 x v Q I1 r1 q1) (he _)
theorem zJ3:OpR X (binaryOp .Add) (fun x y H Q=>∃i j,x=.str i/\y=.str j/\i.length+j.length<=sizeLine/\Q (.str (i++j)) H):=by
 intro pins s σ H x y v u Q I rx ry h
 obtain⟨i,j,rfl,rfl,hz,q⟩:=h
 obtain⟨t,rfl⟩:=rx
 obtain⟨t',rfl⟩:=ry
 exact add_str (fun t' tk=>⟨.str (i++j),H,I.tok _,⟨_,rfl⟩,q⟩) hz
theorem vals1 {x:V}{us:List Value}(r:Vals [x] us):∃u,us=[u]/\RelV x u:=by
 cases r with
 | cons r1 r2=>cases r2;exact⟨_,rfl,r1⟩
theorem vals2 {x y:V}{us:List Value}(r:Vals [x,y] us):∃u w',us=[u,w']/\RelV x u/\RelV y w':=by
 cases r with
 | cons r1 r2=>
  cases r2 with
  | cons r3 r4=>cases r4;exact⟨_,_,rfl,r1,r3⟩
theorem zN4 (hc:X.calm=true):zAx X (.builtin "max") (fun xs H Q=>∃i j,xs=[.int i,.int j]/\Q (.int (if j > i then j else i)) H):=by
 intro pins s σ H xs us Q I r h
 obtain⟨i,j,rfl,q⟩:=h
 obtain⟨u,w',rfl,⟨t,rfl⟩,⟨t',rfl⟩⟩:=vals2 r
 refine max_two_ints (I.ok.hd hc) fun h' tk k=>⟨_,H,I.kept k,?_,q⟩
 by_cases hj:j > i
 ·rw[xg hj,xg hj];exact⟨_,rfl⟩
 ·rw[xh hj,xh hj];exact⟨_,rfl⟩
end
end L2
namespace L2
open PySem PySem.Spec PyProof.Rows
theorem RelO.some_of {v:V}{o:Option Value}(r:RelO (some v) o):∃u,o=some u/\RelV v u:=by
 cases o with
 | none=>exact(show False from r).elim
 | some u=>exact⟨u,rfl,r⟩
end L2
namespace L2
open PySem PySem.Spec PyProof.Rows
structure Room (k:Nat) (A:Around):Prop where
 hd:A.handled=none
 dp:A.depth+3*k+5<recursionLimit
 un:A.units+16*k+200<cLine
theorem Room.mono {j k:Nat}{A:Around}(r:Room k A) (h:j<=k):Room j A:=⟨r.hd,by have:=r.dp;lia,by have:=r.un;lia⟩
theorem Room.deeper {k:Nat}{A:Around}(r:Room (k+1) A) (env:Env):Room k (A.deeper env):=
 ⟨r.hd,by have:=r.dp;show A.depth+1+3*k+5<_;lia,by have:=r.un;show A.units+3+16*k+200<_;lia⟩
theorem Room.depth {k:Nat}{A:Around}(r:Room k A):A.depth<recursionLimit:=by have:=r.dp;lia
theorem Room.units {k:Nat}{A:Around}(r:Room k A):A.units+64<cLine:=by have:=r.un;lia
theorem Room.units0 {k:Nat}{A:Around}(r:Room k A):A.units<cLine:=by have:=r.un;lia
noncomputable def tNil:TA:=fun _ H Q=>Q [] H
noncomputable def zR0 (ta:TE) (tr:TA):TA:=fun σ H Q=>ta σ H fun x H1=>tr σ H1 fun xs H2=>Q (x::xs) H2
section
variable {X:Cx}{e:Expr}{es:List Expr}{te:TE}{t:TA}{pos:Pos}
theorem zVo:PA X [] tNil:=fun _ _ _ _ H Q I h=>v7 ⟨[],H,I,.nil,h⟩
theorem zS4 (ha:PE X e te) (hr:PA X es t) (hs:starEach (e::es) X.env=(false,eval e X.env)::starEach es X.env:=by rfl):PA X (e::es) (zR0 te t):=by
 intro pos pins s σ H Q I h
 rw[hs]
 show wpAny _ _ (spliced ((false,eval e X.env)::backTo pos (starEach es X.env))) _ _ s
 refine v8 (thn (ha pins s σ H _ I h) fun u s1 hq1=>?_)
 obtain⟨x,H1,I1,r1,q1⟩:=hq1
 exact thn (hr pos pins s1 σ H1 _ I1 q1) fun us s2 hz5=>by obtain⟨xs,H2,I2,r2,q2⟩:=hz5;exact ⟨x::xs,H2,I2,.cons r1 r2,q2⟩
noncomputable def tTup (t:TA):TE:=fun σ H Q=>t σ H fun xs H1=>xs.length<=sizeLine/\∀p,H1 p=none->Q (.ref p) (upd H1 p (.tup xs))
noncomputable def tLst (t:TA):TE:=fun σ H Q=>t σ H fun xs H1=>xs.length<=sizeLine/\∀p,H1 p=none->Q (.ref p) (upd H1 p (.lst xs))
theorem zVd {x1} (h:PA X es t):PE X (.Tuple es x1 pos) (tTup t):=by
 intro pins s σ H Q I hq
 refine wpAny_Tuple_spliced (thn (h pos pins s σ H _ I hq) fun us s1 ⟨xs,H1,I1,r,z,q⟩=>⟨by rw[<- r.length];exact z,?_⟩)
 have hf:H1 s1.heap.objs.size=none:=I1.hok.fresh (xi _)
 refine⟨.ref s1.heap.objs.size,upd H1 s1.heap.objs.size (.tup xs),I1.laid (t':=s1.toks) (fun b u e=>xm _ e) (xi _) ?_,rfl,q _ hf⟩
 exact⟨z,us,r,⟨_,xD _ rfl,rfl,_,rfl⟩⟩
theorem zVh (h:PA X es t):PE X (.List es pos) (tLst t):=by
 intro pins s σ H Q I hq
 refine wpAny_List_spliced (thn (h pos pins s σ H _ I hq) fun us s1 ⟨xs,H1,I1,r,z,q⟩=>⟨by rw[<- r.length];exact z,?_⟩)
 have hf:H1 s1.heap.objs.size=none:=I1.hok.fresh (xi _)
 refine⟨.ref s1.heap.objs.size,upd H1 s1.heap.objs.size (.lst xs),I1.laid (t':=s1.toks) (fun b u e=>xm _ e) (xi _) ?_,rfl,q _ hf⟩
 exact⟨z,us,0,r,xD _ rfl⟩
end
noncomputable abbrev Sp:=List V->Hp->VK->XK->Prop
noncomputable abbrev CXT:=List Env->Hp->Shared->XK->Value->Shared->Prop
structure Env0 (P:Program) (w:World) (K:PySem.W.Frag) (mg:Str->Option Value) (base:Heap) (A:Around) (outer:List Env) (s:Shared) (H:Hp):Prop where
 frames:A.frames=some outer
 mod:Mod K mg base
 bs:∀b o,base.get? b=some o->s.heap.get? b=some o/\H b=none
 bsz:base.objs.size<=s.heap.objs.size
 funs:s.heap.FunFrames base outer
 frf:∀b∈frs outer,H b=none
 hok:HOk P w H s.heap
 bare:AllBare s.gens
 gds:A.guards=some []
noncomputable def CE (outer:List Env) (P:Program) (w:World) (H:Hp) (s:Shared) (Q:VK) (u:Value) (s':Shared):Prop:=
 ∃v H',s'.os=s.os/\AllBare s'.gens/\Un (frs outer) [] H H' s.heap s'.heap/\HOk P w H' s'.heap/\RelV v u/\Q v H'
noncomputable def CR (CX:CXT) (outer:List Env) (P:Program) (w:World) (H:Hp) (s:Shared) (Q:VK) (E:XK) (r:Result) (s':Shared):Prop:=
 match r with
 | .ok (.ret u)=>CE outer P w H s Q u s'
 | .ok _=>False
 | .error e=>CX outer H s E e s'
structure FnOk (P:Program) (w:World) (K:PySem.W.Frag) (mg:Str->Option Value) (base:Heap) (CX:CXT) (k:Nat) (f:Addr) (fd:FuncData) (ps:List Str) (sp:Sp):Prop where
 len:∀vs H Q E,sp vs H Q E->vs.length=ps.length
 run:∀(A:Around) (outer:List Env) (s:Shared) (H:Hp) (args:Args) (us:List Value) (vs:List V) (Q:VK) (E:XK),Room k A->Env0 P w K mg base A outer s H->BindsTo s fd args (ps.zip us)->Vals vs us->sp vs H Q E->
  codeAny (model P w) A (.call (.ref f) args) (CR CX outer P w H s Q E) s
section
variable {X:Cx}{pins:List (Addr × Obj)}{σ:St}{H:Hp}{s s':Shared}
theorem Inv.env0 (I:Inv X pins σ H s):Env0 X.prog X.w X.K X.mg X.base X.A X.stack s H:=
 ⟨I.ok.frames,I.ok.mod,I.bs,xp I.ok.bsz I.sz,I.stack,I.stkFree,I.hok,I.bare,I.ok.gds⟩
theorem Inv.after {Q:VK}{u:Value}(I:Inv X pins σ H s) (h:CE X.stack X.prog X.w H s Q u s'):EP X pins σ Q u s':=by
 obtain⟨v,H',os,bare,un,hok,r,q⟩:=h
 obtain⟨hh,g,d,t,os'⟩:=s'
 obtain rfl:os'=s.os:=os
 exact⟨v,H',I.call (h':=hh) (g':=g) (d':=d) (t':=t) (ch:=[]) un hok bare (fun b z=>absurd z (by simp)),r,q⟩
end
noncomputable def zNn (sp:Sp) (dvs:List V) (E:XK) (t:TA):TE:=fun σ H Q=>t σ H fun vs H1=>sp (vs++dvs) H1 Q E
noncomputable def Binds (K:PySem.W.Frag) (fd:FuncData) (ps:List Str) (ds:List Value):Prop:=
 ∀(s:Shared) (us:List Value),K.In s.heap->(us++ds).length=ps.length->BindsTo s fd ⟨us,[]⟩ (ps.zip (us++ds))
theorem Binds.all {K:PySem.W.Frag}{fd:FuncData}{ps:List Str}(h:∀us:List Value,us.length=ps.length->bindArgs fd ⟨us,[]⟩=pure (ps.zip us)):Binds K fd ps []:=fun s us _ hl=>by
 rw[v9]at hl ⊢
 exact .of_eq (h us hl)
noncomputable def Passes (CX:CXT) (X:Cx) (E:XK):Prop:=∀(pins:List (Addr × Obj)) (σ:St) (H:Hp) (s:Shared) (e:Value) (s':Shared),Inv X pins σ H s->CX X.stack H s E e s'->X.xe e s'
section
variable {X:Cx}{CX:CXT}{k:Nat}{f C:Addr}{fd:FuncData}{ps:List Str}{sp:Sp}{dvs:List V}{ds:List Value}{E:XK}{x m:Str}{p pos apos:Pos}{e o:Expr}{es:List Expr}{ta:TE}{t:TA}
theorem zUs {pins:List (Addr × Obj)}{σ:St}{H:Hp}{s:Shared}{Q:VK}{us:List Value}{vs:List V}(F:FnOk X.prog X.w X.K X.mg X.base CX k f fd ps sp) (hr:Room k X.A) (hb:Binds X.K fd ps ds) (hd:Vals dvs ds) (hx:Passes CX X E)
  (I:Inv X pins σ H s) (r:Vals vs us) (h:sp (vs++dvs) H Q E):wpAny (model X.prog X.w) X.A (call (.ref f) us) (EP X pins σ Q) X.xe s:=by
 have r2:Vals (vs++dvs) (us++ds):=r.append hd
 have hl:(us++ds).length=ps.length:=by rw[<- r2.length];exact F.len _ _ _ _ h
 refine wpAny_call (uh (F.run X.A X.stack s H ⟨us,[]⟩ (us++ds) (vs++dvs) Q E hr I.env0 (hb s us I.kIn hl) r2 h) fun r s' hq=>?_)
 cases r with
 | error e=>exact hx pins σ H s e s' I hq
 | ok fl=>
  cases fl with
  | ret u=>exact I.after hq
  | next=>exact False.elim hq
  | brk=>exact False.elim hq
  | cont=>exact False.elim hq
theorem zS1 (F:FnOk X.prog X.w X.K X.mg X.base CX k f fd ps sp) (hr:Room k X.A) (hg:Gl X x) (hm:X.mg x=some (.ref f)) (hk:PySem.W.keepIn X.K (.ref f)=true) (hb:Binds X.K fd ps ds) (hd:Vals dvs ds) (hx:Passes CX X E)
  (ha:PA X (e::es) t) (hdb:(x == ("__debug__":Str))=false:=by decide) (he:starEach (e::es) X.env=(false,eval e X.env)::starEach es X.env:=by rfl) (hpl:(backTo pos (starEach es X.env)).any (·.1)=false:=by rfl):
  PE X (.Call (.Name x p) (e::es) [] pos) (zNn sp dvs E t):=by
 intro pins s σ H Q I h
 refine vG (zSp I hg hm ?_ hdb)
 refine PySem.W.callWith_K (h₀:=X.base) I.ok.mod.kin hk (thn (ha pos pins s σ H _ I h) fun us s1 ⟨vs,H1,I1,r,q⟩=>⟨I1.kIn,?_⟩) he hpl
 exact zUs F hr hb hd hx I1 r q
end
structure zCu (N P:List Str) (sc:Scope):Prop where
 kind:sc.kind=.function
 co:sc.isCoroutine=false
 gen:sc.isGenerator=false
 nd:N.Nodup
 pre:N.take P.length=P
 par:∀x∈P,sc.names.lookup x=some .local\/sc.names.lookup x=some .cell
 nofree:∀y∈sc.names,y.2≠.free
theorem zGj {kindOf:Str->Option NameKind}{x:Str}:∀{binds:List (Str × Value)}{m:Str->Option Value},(∀v,(x,v) ∉ binds)->bindL kindOf binds m x=m x
 | [],_,_=>rfl
 | (n,v)::r,m,h=>by
  unfold bindL
  rw[zGj fun w hw=>h w (vd _ hw)]
  split
  ·have:x≠n:=by rintro rfl;exact h v xO
   simp[this]
  ·rfl
theorem zGl {kindOf:Str->Option NameKind}{x:Str}:∀{binds:List (Str × Value)}{m:Str->Option Value},(∀v,(x,v) ∉ binds)->bindC kindOf binds m x=m x
 | [],_,_=>rfl
 | (n,v)::r,m,h=>by
  unfold bindC
  rw[zGl fun w hw=>h w (vd _ hw)]
  split
  ·rfl
  ·have:x≠n:=by rintro rfl;exact h v xO
   simp[this]
theorem zGk {kindOf:Str->Option NameKind}{x:Str}{v:Value}:∀{P:List Str}{vs:List Value}{i:Nat}{m:Str->Option Value},P.Nodup->P[i]?=some x->vs[i]?=some v->kindOf x=some .local->
  bindL kindOf (P.zip vs) m x=some v
 | [],_,_,_,_,h,_,_=>by simp at h
 | _::_,[],_,_,_,_,h,_=>by simp at h
 | p::P,w::vs,0,m,nd,h1,h2,hk=>by
  simp at h1 h2;subst h1;subst h2
  show bindL kindOf ((p,w)::P.zip vs) m p=_
  unfold bindL
  rw[zGj fun v hv=>(x4.mp nd).1 (List.of_mem_zip hv).1,xg hk]
  simp
 | p::P,w::vs,i+1,m,nd,h1,h2,hk=>by
  show bindL kindOf ((p,w)::P.zip vs) m x=_
  unfold bindL
  exact zGk (i:=i) (x4.mp nd).2 (by simpa using h1) (by simpa using h2) hk
theorem zGm {kindOf:Str->Option NameKind}{x:Str}{v:Value}:∀{P:List Str}{vs:List Value}{i:Nat}{m:Str->Option Value},P.Nodup->P[i]?=some x->vs[i]?=some v->kindOf x≠some .local->
  bindC kindOf (P.zip vs) m x=some v
 | [],_,_,_,_,h,_,_=>by simp at h
 | _::_,[],_,_,_,_,h,_=>by simp at h
 | p::P,w::vs,0,m,nd,h1,h2,hk=>by
  simp at h1 h2;subst h1;subst h2
  show bindC kindOf ((p,w)::P.zip vs) m p=_
  unfold bindC
  rw[zGl fun v hv=>(x4.mp nd).1 (List.of_mem_zip hv).1,xh hk]
  simp
 | p::P,w::vs,i+1,m,nd,h1,h2,hk=>by
  show bindC kindOf ((p,w)::P.zip vs) m x=_
  unfold bindC
  exact zGm (i:=i) (x4.mp nd).2 (by simpa using h1) (by simpa using h2) hk
noncomputable def start (N:List Str) (vs:List V):St:=vs.map some++List.replicate (N.length-vs.length) none
noncomputable def cxOf (CX:CXT) (P:Program) (w:World) (K:PySem.W.Frag) (mg:Str->Option Value) (base:Heap) (N:List Str) (qual:Str) (scope:Scope) (f:Addr) (cd:Value) (A:Around) (outer:List Env) (s:Shared) (H:Hp) (E:XK):Cx where
 prog:=P
 w:=w
 K:=K
 mg:=mg
 base:=base
 A:=A.deeper (envOfC qual scope s.heap.objs.size f cd)
 N:=N
 s₀:=s
 H₀:=H
 env:=envOfC qual scope s.heap.objs.size f cd
 outer:=outer
 stack:=envOfC qual scope s.heap.objs.size f cd::outer
 ex:=[]
 calm:=true
 fn:=fun _=>true
 pn:=[]
 xe:=fun e s'=>wpAny (model P w) (A.deeper (envOfC qual scope s.heap.objs.size f cd)) (leaving (envOfC qual scope s.heap.objs.size f cd) e) (fun _ s''=>CX outer H s E e s'') (fun e' s''=>CX outer H s E e' s'') s'
theorem zIp {sc:Scope}{n:Nat}{x:Str}(h:sc.names.lookup x=some .cell):∃c,(cellsFrom n sc.names []).lookup x=some c:=by
 have q:=PySem.W.cellsFrom_some sc.names n [] (.inl h)
 exact Option.isSome_iff_exists.mp q
theorem zLz {CX:CXT}{P:Program}{w:World}{K:PySem.W.Frag}{mg:Str->Option Value}{base:Heap}{N ps:List Str}{qual:Str}{scope:Scope}{f:Addr}{cd:Value}{A:Around}{outer:List Env}{s s1:Shared}{H:Hp}{E:XK}{us:List Value}{vs:List V}
  (S:zCu N ps scope) (hd:A.handled=none) (e0:Env0 P w K mg base A outer s H) (hl:vs.length=ps.length) (r:Vals vs us)
  (x:InCallC s s.heap.objs.size (bindL (envOfC qual scope s.heap.objs.size f cd).kindOf (ps.zip us) fun _=>none) (cellsFrom (s.heap.objs.size+1) scope.names []) (bindC (envOfC qual scope s.heap.objs.size f cd).kindOf (ps.zip us) fun _=>none) s1):
  Inv (cxOf CX P w K mg base N qual scope f cd A outer s H E) [] (start N vs) H s1:=by
 have hpl:ps.length<=N.length:=by have:=congrArg List.length S.pre;rw[vo]at this;lia
 obtain⟨h1,tk,rfl,hk⟩:=x.done
 have noA:∀b:Addr,b ∉ (cxOf CX P w K mg base N qual scope f cd A outer s H E).ex:=fun b z=>absurd (show b∈([]:List Addr)from z) (by simp)
 refine⟨⟨e0.mod,S.kind,rfl,rfl,xi _,fun y z c h1 h2=>?_,fun y hy=>?_,fun y c _ h=>?_,fun _=>hd,Around.frames_deeper e0.frames,.inr ⟨rfl,rfl⟩,fun b z=>absurd z (noA b),e0.bs,e0.bsz,fun b _ _=>noA b,fun b z=>absurd z (noA b),e0.funs,e0.frf,e0.gds⟩,
  rfl,e0.bare,Un.kept hk,⟨_,x.toInCall.ns,fun i y v h1 h2 h3=>?_⟩,fun y c h=>⟨_,x.cell y c h⟩,e0.hok.fresh (xi _),fun y c h=>?_,fun p hp=>absurd (show p∈([]:List (Addr × Obj))from hp) (by simp),e0.hok.kept hk,?_⟩
 ·exact name_of_addr x.apart (uC h1) (uC h2)
 ·have hy:scope.names.lookup y=some .cell\/scope.names.lookup y=some .free:=hy
  rcases hy with hy|hy
  ·exact zIp hy
  ·exact absurd rfl (S.nofree _ (uC hy))
 ·exact xN (x.above y c (uC h))
 ·have hi:i<vs.length:=by
   unfold start at h2
   by_cases hi:i<vs.length
   ·exact hi
   ·rw[vw (by simpa using hi)]at h2
    rw[List.getElem?_replicate]at h2
    split at h2 <;> cases h2
  have ha:vs[i]?=some v:=by
   unfold start at h2
   rw[vf (by simpa using hi),vx]at h2
   cases e:vs[i]? with
   | none=>rw[e]at h2;cases h2
   | some a=>rw[e]at h2;cases h2;rfl
  obtain⟨u,hu,rv⟩:=r.get ha
  have hp:ps[i]?=some y:=by
   rw[<- S.pre,ui (by nofun)];exact h1
  have ndP:ps.Nodup:=by rw[<- S.pre];exact S.nd.sublist (uj _ _)
  refine⟨u,rv,?_⟩
  rcases S.par y (yb hp)with k|k
  ·exact .inl ⟨k,zGk ndP hp hu k⟩
  ·obtain⟨c,e⟩:=zIp (n:=s.heap.objs.size+1) k
   refine .inr ⟨.inl k,c,e,?_⟩
   have q:=x.cell y c e
   rw[zGm ndP hp hu (by show scope.names.lookup y≠_;rw[k];decide)]at q
   exact q
 ·exact e0.hok.fresh (xN (x.above y c (uC h)))
 ·unfold start
  show _=N.length
  rw[xG,xF,List.length_replicate]
  lia
theorem zYp {CX:CXT}{P:Program}{w:World}{K:PySem.W.Frag}{mg:Str->Option Value}{base:Heap}{k:Nat}{f:Addr}{name qual:Str}{params:Arguments}{body:List Stmt}{scope:Scope}{dV kV doc pm cdv ct oc:Value}{an od:Option Addr}
  {osl:Array (Option Value)}{N ps:List Str}{sp:Sp}(lk:K.lookup f=some ⟨oc,od,.func (PySem.W.fnOf name qual params body scope dV kV doc pm an cdv ct),osl⟩) (hcd:PySem.W.codeIn K cdv qual=true) (S:zCu N ps scope)
  (len:∀vs H Q E,sp vs H Q E->vs.length=ps.length)
  (hbody:∀(A:Around) (outer:List Env) (s:Shared) (H:Hp) (vs:List V) (Q:VK) (E:XK),Room k (A.deeper (envOfC qual scope s.heap.objs.size f cdv))->sp vs H Q E->
   ∃t,PSs (cxOf CX P w K mg base N qual scope f cdv A outer s H E) body t/\t { nx:=fun _ H'=>Q .non H',rt:=Q } (start N vs) H):
  FnOk P w K mg base CX (k+1) f (PySem.W.fnOf name qual params body scope dV kV doc pm an cdv ct) ps sp:=by
 refine⟨len,fun A outer s H args us vs Q E hr e0 hb r hsp=>?_⟩
 have hl:=len _ _ _ _ hsp
 have KX:K.In s.heap:=e0.mod.kin.keeps fun b o e=>(e0.bs b o e).1
 have lim:s.heap.NoLimit:=e0.mod.nolimit.keeps fun b o e=>(e0.bs b o e).1
 have hkind:∀y∈ps.zip us,scope.names.lookup y.1=some .local\/(scope.names.lookup y.1=some .cell/\((cellsFrom (s.heap.objs.size+1) scope.names []).lookup y.1).isSome=true):=fun⟨n,v⟩ hy=>by
  rcases S.par n (List.of_mem_zip hy).1 with q|q
  ·exact .inl q
  ·exact .inr ⟨q,PySem.W.cellsFrom_some _ _ _ (.inl q)⟩
 refine codeAny_call_function hr.depth (KX _ _ lk) rfl S.co S.gen rfl (PySem.W.codeRec_of KX hcd) (hb _ _ _ _ ?_)
 refine wpAny_newFunctionEnv_cells S.kind hkind fun env he s1 x=>?_
 subst he
 refine⟨lim.keeps x.toInCall.keep,codeAny_func ?_⟩
 obtain⟨t,ht,hq⟩:=hbody A outer s H vs Q E (hr.deeper _) hsp
 have I:Inv (cxOf CX P w K mg base N qual scope f cdv A outer s H E) [] (start N vs) H s1:=zLz S hr.hd e0 hl r x
 refine vt (ht [] s1 (start N vs) H _ I hq) (fun fl s' hs=>?_) fun e s' hs=>hs
 have fin:∀{σ':St}{H':Hp}{v:V}{u:Value},Inv (cxOf CX P w K mg base N qual scope f cdv A outer s H E) [] σ' H' s'->RelV v u->Q v H'->CE outer P w H s Q u s':=
  fun {σ' H' v u} J rv q=>⟨v,H',J.os,J.bare,J.base,J.hok,rv,q⟩
 cases fl with
 | ret u=>
  obtain⟨v,σ',H',J,rv,q⟩:=hs
  exact fin J rv q
 | next=>
  obtain⟨σ',H',J,q⟩:=hs
  exact fin (v:=V.non) (u:=Value.none) J rfl q
 | brk=>
  obtain⟨_,_,_,q⟩:=hs
  exact False.elim q
 | cont=>
  obtain⟨_,_,_,q⟩:=hs
  exact False.elim q
end L2
namespace L2
open PySem PySem.Spec PyProof.Rows
section
variable {X:Cx}{x:Str}{p pos:Pos}{e:Expr}{es:List Expr}{t:TA}{id T:String}{r:List V->Hp->VK->Prop}
noncomputable def tCB (r:List V->Hp->VK->Prop) (t:TA):TE:=fun σ H Q=>t σ H fun vs H1=>r vs H1 Q
theorem zOo (hc:zAx X (.builtin id) r) (hg:Gl X x) (hm:X.mg x=none) (hv:bootBuiltins x=some (.builtin id)) (ha:PA X (e::es) t) (hn:x≠"__name__":=by decide) (hdb:(x == ("__debug__":Str))=false:=by decide)
  (he:starEach (e::es) X.env=(false,eval e X.env)::starEach es X.env:=by rfl) (hpl:(backTo pos (starEach es X.env)).any (·.1)=false:=by rfl):PE X (.Call (.Name x p) (e::es) [] pos) (tCB r t):=by
 intro pins s σ H Q I h
 refine vG (zBm I hg hm hv ?_ hn hdb)
 exact ym (thn (ha pos pins s σ H _ I h) fun us s1 hz6=>by obtain⟨vs,H1,I1,r1,q1⟩:=hz6;exact hc pins s1 σ H1 vs us Q I1 r1 q1) he hpl
theorem zL4 (hc:zAx X (.type T) r) (hg:Gl X x) (hm:X.mg x=none) (hv:bootBuiltins x=some (.type T)) (ha:PA X (e::es) t) (hn:x≠"__name__":=by decide) (hdb:(x == ("__debug__":Str))=false:=by decide)
  (he:starEach (e::es) X.env=(false,eval e X.env)::starEach es X.env:=by rfl) (hpl:(backTo pos (starEach es X.env)).any (·.1)=false:=by rfl):PE X (.Call (.Name x p) (e::es) [] pos) (tCB r t):=by
 intro pins s σ H Q I h
 refine vG (zBm I hg hm hv ?_ hn hdb)
 exact v3 (thn (ha pos pins s σ H _ I h) fun us s1 hz7=>by obtain⟨vs,H1,I1,r1,q1⟩:=hz7;exact hc pins s1 σ H1 vs us Q I1 r1 q1) he hpl
end
end L2
namespace L2
open PySem PySem.Spec PyProof.Rows
section
variable {κ:Type}[DecidableEq κ]
noncomputable def valV (kvs:List (κ × V)) (k:κ):Option V:=(kvs.find? fun kv=>decide (kv.1=k)).map (·.2)
noncomputable def putK (kvs:List (κ × V)) (k:κ) (v:V):List (κ × V):=
 if(kvs.any fun kv=>decide (kv.1=k))=true then kvs.map (fun kv=>if kv.1=k then(kv.1,v)else kv)else kvs++[(k,v)]
theorem zEo {p:κ × V}{r:List (κ × V)}{k:κ}(e:p.1=k):valV (p::r) k=some p.2:=by simp[valV,uD,e]
theorem zEp {p:κ × V}{r:List (κ × V)}{k:κ}(e:¬ p.1=k):valV (p::r) k=valV r k:=by simp[valV,uD,e]
theorem zDk (kvs:List (κ × V)) (k:κ) (v:V):(putK kvs k v).length<=kvs.length+1:=by
 unfold putK
 split
 ·rw[xF];lia
 ·rw[xG,xH,uQ];lia
theorem RelO.isSome_eq {o:Option V}{u:Option Value}(r:RelO o u):o.isSome=u.isSome:=by
 cases o with
 | none=>cases u with
  | none=>rfl
  | some _=>exact(show False from r).elim
 | some _=>cases u with
  | none=>exact(show False from r).elim
  | some _=>rfl
theorem KV.val {kvs:List (κ × V)}{vs:List (κ × Value)}(r:KV kvs vs) (k:κ):RelO (valV kvs k) (valueAt vs k):=by
 unfold KV at r
 induction r with
 | nil=>exact True.intro
 | @cons p q ps qs h t ih=>
  obtain⟨h1,h2⟩:=h
  by_cases e:p.1=k
  ·have e':q.1=k:=h1.symm.trans e
   have b:valueAt (q::qs) k=some q.2:=by simp[valueAt,uD,e']
   rw[zEo e,b];exact h2
  ·have e':¬ q.1=k:=fun z=>e (h1.trans z)
   have b:valueAt (q::qs) k=valueAt qs k:=by simp[valueAt,uD,e']
   rw[zEp e,b];exact ih
theorem KV.any {kvs:List (κ × V)}{vs:List (κ × Value)}(r:KV kvs vs) (k:κ):(kvs.any fun kv=>decide (kv.1=k))=vs.any fun kv=>decide (kv.1=k):=by
 unfold KV at r
 induction r with
 | nil=>rfl
 | cons h t ih=>rw[List.any_cons,List.any_cons,ih,h.1]
theorem KV.repl {kvs:List (κ × V)}{vs:List (κ × Value)}(r:KV kvs vs) (k:κ) {y:V}{u:Value}(ry:RelV y u):
  KV (kvs.map fun kv=>if kv.1=k then(kv.1,y)else kv) (vs.map fun kv=>if kv.1=k then(kv.1,u)else kv):=by
 unfold KV at r ⊢
 induction r with
 | nil=>exact .nil
 | @cons p q ps qs h t ih=>
  rw[xx,xx]
  refine .cons ?_ ih
  obtain⟨h1,h2⟩:=h
  by_cases e:p.1=k
  ·rw[xg e,xg (h1.symm.trans e)];exact⟨h1,ry⟩
  ·rw[xh e,xh (fun z=>e (h1.trans z))];exact⟨h1,h2⟩
theorem KV.put {kvs:List (κ × V)}{vs:List (κ × Value)}(r:KV kvs vs) (k:κ) {y:V}{u:Value}(ry:RelV y u):KV (putK kvs k y) (stored vs k u):=by
 unfold putK stored
 rw[r.any k]
 by_cases e:(vs.any fun kv=>decide (kv.1=k))=true
 ·rw[xg e,xg e];exact r.repl k ry
 ·rw[xh e,xh e];exact Paired.snoc r ⟨rfl,ry⟩
theorem KV.length {kvs:List (κ × V)}{vs:List (κ × Value)}(r:KV kvs vs):kvs.length=vs.length:=Paired.length r
end
theorem zJ9 {P:Program}{w:World}{k:Key}{u:Value}(r:RelV (kV k) u):(zAn P w).is k u=true:=by
 cases k with
 | inl i=>obtain⟨t,e⟩:=(show ∃t,u=Value.int i t from r);subst e;exact zH4 P w i t
 | inr x=>obtain⟨t,e⟩:=(show ∃t,u=Value.str x t from r);subst e;exact zH3 P w x t
theorem zG7 {P:Program}{w:World}:∀{ks:List Key}{us:List Value},Vals (ks.map kV) us->ItemsAre (zAn P w) ks us
 | [],_,r=>by rw[vH]at r;cases r;exact .nil
 | k::ks,_,r=>by
  rw[xx]at r
  cases r with
  | cons h t=>exact .cons (zJ9 h) (zG7 t)
noncomputable abbrev KT (H:Hp):List (List Key × V)->List (List Key × Addr × Value)->Prop:=Paired fun p q=>p.1=q.1/\H q.2.1=some (.tup (p.1.map kV))/\RelV p.2 q.2.2
theorem KT.val {H:Hp}{kvs:List (List Key × V)}{xs:List (List Key × Addr × Value)}(r:KT H kvs xs) (k:List Key):RelO (valV kvs k) ((atKey xs k).map (·.2)):=by
 induction r with
 | nil=>exact True.intro
 | @cons p q ps qs h t ih=>
  obtain⟨h1,_,h2⟩:=h
  by_cases e:p.1=k
  ·have e':q.1=k:=h1.symm.trans e
   have b:atKey (q::qs) k=some q.2:=by simp[atKey,uD,e']
   rw[zEo e,b];exact h2
  ·have e':¬ q.1=k:=fun z=>e (h1.trans z)
   have b:atKey (q::qs) k=atKey qs k:=by simp[atKey,uD,e']
   rw[zEp e,b];exact ih
section
variable {P:Program}{w:World}{H:Hp}{h:Heap}{a:Addr}
theorem zNx {u:HO}(ok:HOk P w H h) (e:Rd H a u):ObjOk P w H h a u:=e.ok ok
theorem zJh {kvs:List (Key × V)}(ok:HOk P w H h) (e:Rd H a (.dK kvs)):kvs.length<=sizeLine/\(a == sysModules)=false/\∃vs,KV kvs vs/\h.DictOf (zAn P w) a vs:=
 show ObjOk P w H h a (.dK kvs)from zNx ok e
theorem zX9 {kvs:List (Key × V)}(ok:HOk P w H h) (e:H a=some (.dK kvs)):kvs.length<=sizeLine/\(a == sysModules)=false/\∃vs,KV kvs vs/\h.DictOf (zAn P w) a vs:=zJh ok (.inl e)
theorem zI8 {ks:List Key}(ok:HOk P w H h) (e:H a=some (.tup (ks.map kV))):(tupleKind (zAn P w)).is h ks a:=by
 obtain⟨_,its,r,o,h1,h2,n,h3⟩:=(show ObjOk P w H h a (.tup (ks.map kV))from ok a _ e)
 exact⟨o,its.toArray,n,h1,h2,h3,by simpa using zG7 r⟩
theorem zMc {kvs:List (List Key × V)}(ok:HOk P w H h) (e:Rd H a (.dT kvs)):kvs.length<=sizeLine/\(a == sysModules)=false /\
  ∃xs,KT H kvs xs/\h.DictOfH (tupleKind (zAn P w)) a xs:=by
 obtain⟨z,y,xs,r,o,es,ep,h1,h2,h3,h4,h5⟩:=(show ObjOk P w H h a (.dT kvs)from zNx ok e)
 refine⟨z,y,xs,r,o,es,ep,h1,h2,h3,h4,fun x hx=>?_,h5⟩
 have all:∀{l:List (List Key × V)}{m:List (List Key × Addr × Value)},KT H l m->∀x∈m,(tupleKind (zAn P w)).is h x.1 x.2.1:=by
  intro l m q
  induction q with
  | nil=>intro x hx;exact nomatch hx
  | @cons p q ps qs hq t ih=>
   intro x hx
   rcases xn.mp hx with e|hx
   ·subst e
    exact zI8 ok (by rw[<- hq.1];exact hq.2.1)
   ·exact ih x hx
 exact all r x hx
end
noncomputable def DGet (H:Hp) (a:Addr) (y:V) (r:Option V):Prop:=
 (∃kvs k,Rd H a (.dK kvs)/\y=kV k/\r=valV kvs k)\/∃kvs k b,Rd H a (.dT kvs)/\y=.ref b/\H b=some (.tup (k.map kV))/\r=valV kvs k
section
variable {X:Cx}{pins:List (Addr × Obj)}{σ:St}{H:Hp}{s:Shared}{a:Addr}{y v:V}{u r:Value}{o:Option V}{A:Around}{E:Value->Shared->Prop}
theorem Inv.big (I:Inv X pins σ H s):sysModules<s.heap.objs.size:=by
 have h:mainGlobals<s.heap.objs.size:=(I.mod.glob.keeps I.bk).lt
 exact vS (by decide) h
theorem zMq {Q:Value->Shared->Prop}(hu:A.units+1<cLine) (I:Inv X pins σ H s) (g:DGet H a y (some v)) (ry:RelV y u) (h:∀w' s',Inv X pins σ H s'->RelV v w'->Q w' s'):
  wpAny (model X.prog X.w) A (getItem (.ref a) u) Q E s:=by
 rcases g with⟨kvs,k,e,ey,l⟩|⟨kvs,k,b,e,ey,eb,l⟩
 ·subst ey
  obtain⟨z,hd,vs,rel,dd⟩:=zJh I.hok e
  obtain⟨w',hw,rw'⟩:=RelO.some_of (v:=v) (o:=valueAt vs k) (by rw[l];exact rel.val k)
  exact wpAny_getItem_of (zJ9 ry) dd.mapOf hw (h w' _ (I.tok _) rw')
 ·subst ey
  cases(show u=Value.ref b from ry)
  obtain⟨z,hd,xs,rel,dd⟩:=zMc I.hok e
  obtain⟨w',hw,rw'⟩:=RelO.some_of (v:=v) (o:=(atKey xs k).map (·.2)) (by rw[l];exact rel.val k)
  obtain⟨p,hp,hp2⟩:=Option.map_eq_some_iff.mp hw
  refine wpAny_getItem_heap (tupleKind_room_in1 hu) (zI8 I.hok eb) dd hp ?_
  rw[hp2]
  exact h w' _ (I.tok _) rw'
theorem d_in {Q:Value->Shared->Prop}(hu:A.units+1<cLine) (I:Inv X pins σ H s) (g:DGet H a y o) (ry:RelV y u) (h:∀s',Inv X pins σ H s'->Q (.bool o.isSome) s'):
  wpAny (model X.prog X.w) A (compareOp .In u (.ref a)) Q E s:=by
 rcases g with⟨kvs,k,e,ey,l⟩|⟨kvs,k,b,e,ey,eb,l⟩
 ·subst ey
  obtain⟨z,hd,vs,rel,dd⟩:=zJh I.hok e
  refine wpAny_in_of (zJ9 ry) hd dd.mapOf ?_
  rw[<- (rel.val k).isSome_eq,<- l]
  exact h _ (I.tok _)
 ·subst ey
  cases(show u=Value.ref b from ry)
  obtain⟨z,hd,xs,rel,dd⟩:=zMc I.hok e
  refine wpAny_in_heap (tupleKind_room_in1 hu) (zI8 I.hok eb) hd dd ?_
  have q:=(rel.val k).isSome_eq
  rw[Option.isSome_map]at q
  rw[<- q,<- l]
  exact h _ (I.tok _)
theorem zMp {Q:Value->Shared->Prop}(hu:A.units+1<cLine) (I:Inv X pins σ H s) (g:DGet H a y o) (ry:RelV y u) (h:∀s',Inv X pins σ H s'->Q (.bool (!o.isSome)) s'):
  wpAny (model X.prog X.w) A (compareOp .NotIn u (.ref a)) Q E s:=by
 rcases g with⟨kvs,k,e,ey,l⟩|⟨kvs,k,b,e,ey,eb,l⟩
 ·subst ey
  obtain⟨z,hd,vs,rel,dd⟩:=zJh I.hok e
  refine wpAny_notIn_of (zJ9 ry) hd dd.mapOf ?_
  rw[<- (rel.val k).isSome_eq,<- l]
  exact h _ (I.tok _)
 ·subst ey
  cases(show u=Value.ref b from ry)
  obtain⟨z,hd,xs,rel,dd⟩:=zMc I.hok e
  refine wpAny_notIn_heap (tupleKind_room_in1 hu) (zI8 I.hok eb) hd dd ?_
  have q:=(rel.val k).isSome_eq
  rw[Option.isSome_map]at q
  rw[<- q,<- l]
  exact h _ (I.tok _)
theorem zMo {h':Heap}{t':Nat}{ob:HO}(I:Inv X pins σ H s) (mu:Mut (H a)) (hs:Heap.SameBut a s.heap h') (he:∃q,h'.get? a=some q) (new:ObjOk X.prog X.w (upd H a ob) h' a ob):
  Inv X pins σ (upd H a ob) { s with heap:=h',toks:=t' }:=
 I.write (x:=a) (e:=a) mu (.inl rfl) (fun b q hb z=>(hs.2 b hb).trans z) he new
theorem zQm {P:Program}{w:World}{H':Hp}{h':Heap}{kvs:List (Key × V)}{vs:List (Key × Value)}(z:kvs.length<=sizeLine) (hd:(a == sysModules)=false) (rel:KV kvs vs) (dd:h'.DictOf (zAn P w) a vs):
  ObjOk P w H' h' a (.dK kvs):=⟨z,hd,vs,rel,dd⟩
end
section
variable {X:Cx}{pins:List (Addr × Obj)}{σ:St}{H:Hp}{s:Shared}{a:Addr}{kvs:List (Key × V)}{k:Key}{u:Value}{A:Around}{E:Value->Shared->Prop}
theorem zZ8 {Q:Value->Shared->Prop}(I:Inv X pins σ H s) (e:Rd H a (.dK kvs)) (h:∀t s',Inv X pins σ H s'->Q (.int kvs.length t) s'):wpAny (model X.prog X.w) A (call (.builtin "len") [.ref a]) Q E s:=by
 obtain⟨z,hd,vs,rel,dd⟩:=zJh I.hok e
 refine call_len_dict hd dd (by rw[<- rel.length];rw[xZ]at z;lia) ?_
 rw[<- rel.length]
 exact h _ _ (I.tok _)
end
theorem zHd {X:Cx}{pins:List (Addr × Obj)}{σ:St}{H:Hp}{s:Shared}{a:Addr}{y:V}{o:Option V}(I:Inv X pins σ H s) (g:DGet H a y o):s.TypeIs (.ref a) "dict":=by
 rcases g with⟨kvs,k,e,_,_⟩|⟨kvs,k,b,e,_,_,_⟩
 ·obtain⟨_,_,vs,_,dd⟩:=zJh I.hok e
  exact dd.typeIs
 ·obtain⟨_,_,xs,_,dd⟩:=zMc I.hok e
  exact dd.typeIs
theorem zPi {P:Program}{w:World}{H:Hp}(h:Heap) (hb:sysModules<h.objs.size):ObjOk P w H (h.push { cls:=.type "dict",data:=.dict #[] }) h.objs.size (.dK []):=
 ⟨vg _,beq_eq_false_iff_ne.mpr (xw (xr hb)),[],.nil,Heap.DictOf.new h⟩
noncomputable def zHv:List (TE × TE)->St->Hp->(List (V × V)->Hp->Prop)->Prop
 | [],_,H,Q=>Q [] H
 | (tk,tv)::r,σ,H,Q=>tk σ H fun x H1=>tv σ H1 fun y H2=>zHv r σ H2 fun ps H3=>Q ((x,y)::ps) H3
noncomputable abbrev VV:List (V × V)->List (Value × Value)->Prop:=Paired fun p q=>RelV p.1 q.1/\RelV p.2 q.2
noncomputable def PPs (X:Cx) (pos:Pos) (keys:List (Option Expr)) (values:List Expr) (trs:List (TE × TE)):Prop:=
 ∀(pins:List (Addr × Obj)) (s:Shared) (σ:St) (H:Hp) (Q:List (V × V)->Hp->Prop),Inv X pins σ H s->zHv trs σ H Q->
  wpAny (model X.prog X.w) X.A (evalPairs (pairTrees keys values X.env pos)) (fun vs s'=>∃ps H',Inv X pins σ H' s'/\VV ps vs/\Q ps H') X.xe s
theorem zRp {X:Cx}{pos:Pos}:PPs X pos [] [] []:=fun pins s σ H Q I h=>pairTrees_nil_walk ⟨[],H,I,.nil,h⟩
theorem zOa {X:Cx}{pos:Pos}{k v:Expr}{ks:List (Option Expr)}{vs:List Expr}{tk tv:TE}{trs:List (TE × TE)}(hk:PE X k tk) (hv:PE X v tv) (hr:PPs X pos ks vs trs):
  PPs X pos (some k::ks) (v::vs) ((tk,tv)::trs):=fun pins s σ H Q I h=>
 pairTrees_cons_walk (thn (hk pins s σ H _ I h) fun u s1 ⟨x,H1,I1,rx,q1⟩=>thn (hv pins s1 σ H1 _ I1 q1) fun w2 s2 ⟨y,H2,I2,ry,q2⟩=>
  thn (hr pins s2 σ H2 _ I2 q2) fun ws s3 hz8=>by obtain⟨ps,H3,I3,rel,q3⟩:=hz8;exact ⟨(x,y)::ps,H3,I3,.cons ⟨rx,ry⟩ rel,q3⟩)
noncomputable def zCw (kvs more:List (Key × V)):List (Key × V):=more.foldl (fun acc kv=>putK acc kv.1 kv.2) kvs
theorem KV.merge:∀{more:List (Key × V)}{rs:List (Key × Value)}{kvs:List (Key × V)}{vs:List (Key × Value)},KV more rs->KV kvs vs->KV (zCw kvs more) (merged vs rs):=by
 intro more rs kvs vs r
 unfold KV at r
 induction r generalizing kvs vs with
 | nil=>intro q;exact q
 | @cons p q ps qs h t ih=>
  intro r0
  have e:KV (putK kvs p.1 p.2) (stored vs q.1 q.2):=by
   have:=r0.put p.1 h.2
   rw[<- h.1];exact this
  exact ih e
theorem zCe:∀(more kvs:List (Key × V)),(zCw kvs more).length<=kvs.length+more.length
 | [],kvs=>by show kvs.length<=kvs.length+0;lia
 | p::r,kvs=>by
  have h1:=zCe r (putK kvs p.1 p.2)
  have h2:=zDk kvs p.1 p.2
  show(zCw (putK kvs p.1 p.2) r).length<=_
  rw[xH];lia
theorem zEk {P:Program}{w:World}:∀{kvs:List (Key × V)}{ws:List (Value × Value)},VV (kvs.map fun kv=>(kV kv.1,kv.2)) ws->∃rs,Carries (zAn P w) ws rs/\KV kvs rs
 | [],_,r=>by rw[vH]at r;cases r;exact⟨[],True.intro,.nil⟩
 | p::kvs,_,r=>by
  rw[xx]at r
  cases r with
  | @cons a b as bs h t=>
   obtain⟨rs,c,q⟩:=zEk (P:=P) (w:=w) t
   obtain⟨b1,b2⟩:=b
   exact⟨(p.1,b2)::rs,⟨zJ9 h.1,rfl,c⟩,.cons ⟨rfl,h.2⟩ q⟩
noncomputable def zUk (trs:List (TE × TE)):TE:=fun σ H Q=>∀p,H p=none->zHv trs σ (upd H p (.dK [])) fun ps H2=>H2 p=some (.dK [])/\∃kvs:List (Key × V),ps=kvs.map (fun kv=>(kV kv.1,kv.2))/\kvs.length<=15/\Q (.ref p) (upd H2 p (.dK (zCw [] kvs)))
theorem zRz {X:Cx}{pos:Pos}{keys:List (Option Expr)}{values:List Expr}{trs:List (TE × TE)}(h:PPs X pos keys values trs) (hall:keys.all (·.isSome)=true) (hl:keys.length=values.length) (h0:keys≠[])
  (h15:keys.length<=15):PE X (.Dict keys values pos) (zUk trs):=by
 intro pins s σ H Q I q
 have hn:=I.hok.fresh (xi s.heap.objs.size)
 have I1:=I.laid (a:=s.heap.objs.size) (o:=.dK []) (h':=s.heap.push { cls:=.type "dict",data:=.dict #[] }) (t':=s.toks) (fun _ _ q=>xm _ q) (xi _) (zPi s.heap I.big)
 refine wpAny_Dict_walk (knd:=zAn X.prog X.w) hall hl h0 h15 (thn (h pins _ σ _ _ I1 (q _ hn)) fun ws s2 hq1=>?_)
 obtain⟨ps,H2,I2,rel,e,kvs,ep,lk,q2⟩:=hq1
 subst ep
 obtain⟨rs,c,rk⟩:=zEk (P:=X.prog) (w:=X.w) rel
 obtain⟨z,hd,vs0,r0,dd⟩:=zX9 I2.hok e
 cases r0
 refine⟨rs,c,dd,fun h' dd' hs=>⟨.ref s.heap.objs.size,_,?_,rfl,q2⟩⟩
 have hz:(zCw [] kvs).length<=sizeLine:=by
  have h1:=zCe kvs []
  rw[uQ]at h1
  rw[xZ];lia
 have he:∃q,h'.get? s.heap.objs.size=some q:=let ⟨q,_,_,hq,_⟩:=dd';⟨q,hq⟩
 exact zMo I2 (by rw[e];exact True.intro) hs he (zQm hz hd (rk.merge .nil) dd')
end L2
namespace HT
open PySem PyProof.Rows
section
open PySem.SeqAt
open PySem.AutoSeq1 (wpAny_loadPart')
open PySem.MeetsSeq PySem.MeetsSeq2 PySem.MeetsSeq3
end
section
variable {prog:Program}{w:World}{A:Around}{E:Value->Shared->Prop}{s:Shared}
theorem cat_tup {t b:Addr}{vs ws:List Value}{Q:Value->Shared->Prop}(ht:IsTup s.heap t vs.toArray) (hb:IsTup s.heap b ws.toArray) (hv:vs≠[])
  (h1:ws=[]->Q (.ref t) s) (h2:ws≠[]->Q (.ref s.heap.objs.size) { s with heap:=s.heap.push { cls:=.type "tuple",data:=.seq (vs++ws).toArray } })
  (hsz:vs.length+ws.length<=sizeLine):wpAny (model prog w) A (binaryOp .Add (.ref t) (.ref b)) Q E s:=by
 obtain⟨⟨cls,dd,data,sl⟩,ho,hc,n,hd⟩:=id ht
 obtain⟨⟨cls2,dd2,data2,sl2⟩,ho2,hc2,n2,hd2⟩:=id hb
 simp only at hc hd hc2 hd2
 subst hc hd hc2 hd2
 have e:vs.toArray++ws.toArray=(vs++ws).toArray:=by simp
 by_cases hw:ws=[]
 ·exact concat_meets ⟨_,ho,rfl⟩ ⟨_,ho2,rfl⟩ noFill_tuple_add seq_tuple_add PySem.F.slot_tuple_add PySem.F.entry_tuple_add (PySem.F.args_tuple_add_2 _ _)
   (tuple_addW1 t b vs.toArray ws.toArray n n2 dd dd2 sl sl2 (by simpa using hv) (by simp[hw])) ⟨ho,ho2,h1 hw⟩
 ·refine concat_meets ⟨_,ho,rfl⟩ ⟨_,ho2,rfl⟩ noFill_tuple_add seq_tuple_add PySem.F.slot_tuple_add PySem.F.entry_tuple_add (PySem.F.args_tuple_add_2 _ _)
   (tuple_addW2 t b vs.toArray ws.toArray n n2 dd dd2 sl sl2 (by simpa using hv) (by simpa using hw) (by rw[xq,xq];exact hsz)) ⟨ho,ho2,?_⟩
  rw[e]
  exact h2 hw
noncomputable def sIx (n d:Nat):Option Int->Nat
 | none=>d
 | some v=>if v<0 then(v+(n:Int)).toNat else min v.toNat n
theorem zUr (n d:Nat) (hd:d<=n) (o:Option Int):sIx n d o<=n:=by
 cases o with
 | none=>exact hd
 | some v=>
  show(if v<0 then(v+(n:Int)).toNat else min v.toNat n)<=n
  by_cases hv:v<0
  ·rw[xg hv];lia
  ·rw[xh hv];exact Nat.min_le_right _ _
theorem zMy (v:Int) (n d:Nat):(if v<0 then max (v+(n:Int)) 0 else min v (n:Int))=((sIx n d (some v):Nat):Int):=by
 show(if v<0 then max (v+(n:Int)) 0 else min v (n:Int))=(((if v<0 then(v+(n:Int)).toNat else min v.toNat n):Nat):Int)
 by_cases hv:v<0
 ·simp only[xg hv];lia
 ·simp only[xh hv];lia
theorem zJt (lo hi:Option Int) (n:Nat):Builtin.Slice.sliceAdjust lo hi 1 (n:Int)=(((sIx n 0 lo:Nat):Int),((sIx n n hi:Nat):Int)):=by
 have h1:¬ ((1:Int)<0):=by nofun
 unfold Builtin.Slice.sliceAdjust
 simp only[h1,xQ]
 refine Prod.ext ?_ ?_
 ·cases lo with
  | none=>rfl
  | some v=>exact zMy v n 0
 ·cases hi with
  | none=>rfl
  | some v=>exact zMy v n n
theorem zJ1 (i j:Nat):Builtin.Slice.slicePlaces (i:Int) (j:Int) 1=j-i:=by
 unfold Builtin.Slice.slicePlaces
 have h1:(1:Int) > 0:=by nofun
 simp only[h1,xo,Int.ediv_one]
 split <;> lia
theorem slicePart_ {v:Value}{o:Option Int}{Q:Option Int->Shared->Prop}(p:IsPart v o) (h:Q o s):wpAny (model prog w) A (Builtin.Slice.slicePartIndex v) Q E s:=by
 cases p with
 | none=>exact slicePart_none h
 | int i t=>exact slicePart_int h
theorem sliceApplied_gen {sl:Addr}{vl vu:Value}{lo hi:Option Int}{n:Nat}{Q:Int × Int × Nat->Shared->Prop}(hs:s.heap.IsSliceOf sl vl vu .none) (pl:IsPart vl lo) (pu:IsPart vu hi)
  (h:Q (((sIx n 0 lo:Nat):Int),1,sIx n n hi-sIx n 0 lo) s):wpAny (model prog w) A (Builtin.Slice.sliceApplied (.ref sl) (pure (n:Int))) Q E s:=by
 obtain⟨os,hos,hcs,hds⟩:=id hs
 unfold Builtin.Slice.sliceApplied Builtin.Slice.sliceFields
 refine xc (xc (xR hos hds (x:=vl) rfl (xc (xR hos hds (x:=vu) rfl (xc (xR hos hds (x:=.none) rfl (xf ?_)))))))
 refine xc (slicePart_none ?_)
 show wpAny _ _ (if((1:Int) == 0)=true then _ else _) _ _ s
 rw[xh (by decide)]
 refine xc (slicePart_ pl (xc (slicePart_ pu (xc (xf ?_)))))
 show wpAny _ _ (match Builtin.Slice.sliceAdjust lo hi 1 (n:Int)with|(lo,hi)=>pure (lo,(1:Int),Builtin.Slice.slicePlaces lo hi 1)) _ _ s
 rw[zJt lo hi n]
 show wpAny _ _ (pure (((sIx n 0 lo:Nat):Int),(1:Int),Builtin.Slice.slicePlaces ((sIx n 0 lo:Nat):Int) ((sIx n n hi:Nat):Int) 1)) _ _ s
 rw[zJ1]
 exact xf h
theorem zOg (xs:Array Value) (i k:Nat):((List.range k).filterMap fun(m:Nat)=>xs[((i:Int)+(m:Int)*1).toNat]?).toArray=((xs.toList.drop i).take k).toArray:=by
 have e:(fun(m:Nat)=>xs[((i:Int)+(m:Int)*1).toNat]?)=fun m=>xs[i+m]?:=by
  funext m
  have:((i:Int)+(m:Int)*1).toNat=i+m:=by nofun
  rw[this]
 rw[e]
 have:=pick_run xs i k
 rw[List.filterMap_map]at this
 have e2:((fun x=>xs[x]?) ∘ fun x=>i+x)=fun m=>xs[i+m]?:=rfl
 rw[e2]at this
 rw[this]
theorem getItem_tuple_cut {t sl:Addr}{items:Array Value}{vl vu:Value}{lo hi:Option Int}{Q:Value->Shared->Prop}(ht:IsTup s.heap t items) (hs:s.heap.IsSliceOf sl vl vu .none) (pl:IsPart vl lo) (pu:IsPart vu hi)
  (hw:¬ (sIx items.size 0 lo=0/\sIx items.size items.size hi=items.size))
  (h:Q (.ref s.heap.objs.size) { s with heap:=s.heap.push { cls:=.type "tuple",data:=.seq ((items.toList.drop (sIx items.size 0 lo)).take (sIx items.size items.size hi-sIx items.size 0 lo)).toArray } })
  (hsz:items.size<=sizeLine):wpAny (model prog w) A (getItem (.ref t) (.ref sl)) Q E s:=by
 have htake:sizeOk (.seq ((items.toList.drop (sIx items.size 0 lo)).take (sIx items.size items.size hi-sIx items.size 0 lo)).toArray):=by
  show((items.toList.drop (sIx items.size 0 lo)).take (sIx items.size items.size hi-sIx items.size 0 lo)).toArray.size<=sizeLine
  rw[xq,vo,ua,xW]
  lia
 have hj:sIx items.size items.size hi<=items.size:=zUr _ _ (xi _) hi
 obtain⟨os,hos,hcs,hds⟩:=id hs
 have hTs:s.TypeIs (.ref sl) "slice":=⟨os,hos,hcs⟩
 unfold getItem
 try with_reducible refine xC ?_
 first|refine xc (xf ?_)|skip
 refine xc (wpAny_sequenceKey ht.typeIs (by decide) ?_)
 refine xc (vI (name:=Str.ofString "__getitem__") ht.typeIs vJ
  (xS vJ ht.typeIs entry_tuple_getitem ?_ (args_tuple_getitem _ _)))
 show wpAny _ _ (Builtin.Tuple.tupleItemsOf (.ref t) >>= _) _ _ s
 refine xc (tupleItemsOf_ ht ?_)
 refine xc (uk hTs ?_)
 rw[xg (by decide)]
 refine xc (sliceApplied_gen hs pl pu ?_)
 have hno:¬ ((((sIx items.size 0 lo:Nat):Int) == 0 && (1:Int) == 1 && (sIx items.size items.size hi-sIx items.size 0 lo) == items.size)=true):=by
  intro q
  rw[xt,xt]at q
  have q1:((sIx items.size 0 lo:Nat):Int)=0:=eq_of_beq q.1.1
  have q2:sIx items.size items.size hi-sIx items.size 0 lo=items.size:=eq_of_beq q.2
  exact hw ⟨by nofun,by nofun⟩
 show wpAny _ _ (if(((sIx items.size 0 lo:Nat):Int) == 0 && (1:Int) == 1 && (sIx items.size items.size hi-sIx items.size 0 lo) == items.size)=true then _ else _) _ _ s
 rw[xh hno,zOg]
 first
  | exact xc (m:=Builtin.Tuple.tupleExact _) (ve (xf ⟨_,rfl,xf h⟩) htake)
  | exact xc (m:=Builtin.Tuple.tupleExact _) (ve (xc (xf (xf ⟨_,rfl,xf h⟩))) htake)
  | exact xc (xc (m:=Builtin.Tuple.tupleExact _) (ve (xf (xf ⟨_,rfl,xf h⟩)) htake))
  | exact xc (xc (m:=Builtin.Tuple.tupleExact _) (ve (xf ⟨_,rfl,xf h⟩) htake))
end
end HT
namespace L2
open PySem PySem.Spec PyProof.Rows
noncomputable abbrev TO:=St->Hp->(Option Int->Hp->Prop)->Prop
noncomputable def PO (X:Cx) (e:Option Expr) (t:TO):Prop:=
 ∀(pins:List (Addr × Obj)) (s:Shared) (σ:St) (H:Hp) (Q:Option Int->Hp->Prop),Inv X pins σ H s->t σ H Q->
  wpAny (model X.prog X.w) X.A (evalPart e X.env) (fun u s'=>∃o H',Inv X pins σ H' s'/\IsPart u o/\Q o H') X.xe s
noncomputable def zK5:TO:=fun _ H Q=>Q none H
noncomputable def zUi (t:TE):TO:=fun σ H Q=>t σ H fun x H1=>∃i,x=.int i/\Q (some i) H1
section
variable {X:Cx}{e:Expr}{te:TE}{lo hi:Option Expr}{tl th:TO}{pos p2:Pos}
theorem zRr:PO X none zK5:=by
 intro pins s σ H Q I h
 rw[evalPart_none]
 exact xf ⟨none,H,I,.none,h⟩
theorem zRq (h:PE X e te):PO X (some e) (zUi te):=by
 intro pins s σ H Q I hw
 rw[evalPart_some]
 refine thn (h pins s σ H _ I hw) fun u s1 hq1=>?_
 obtain⟨x,H1,I1,r1,q1⟩:=hq1
 obtain⟨i,rfl,q⟩:=q1
 obtain⟨t,rfl⟩:=r1
 exact⟨some i,H1,I1,.int i t,q⟩
noncomputable def SlR (X:Cx) (r:V->Option Int->Option Int->Hp->VK->Prop):Prop:=
 ∀(pins:List (Addr × Obj)) (s:Shared) (σ:St) (H:Hp) (x:V) (v vl vu:Value) (lo hi:Option Int) (sl:Addr) (Q:VK),Inv X pins σ H s->RelV x v->s.heap.IsSliceOf sl vl vu .none->IsPart vl lo->IsPart vu hi->r x lo hi H Q->
  ∃T id,typeLookup (.type T) "__getitem__"=pure (some (.builtin id))/\s.TypeIs v T/\wpAny (model X.prog X.w) X.A (getItem v (.ref sl)) (EP X pins σ Q) X.xe s
noncomputable def tSl (r:V->Option Int->Option Int->Hp->VK->Prop) (te:TE) (tl th:TO):TE:=fun σ H Q=>te σ H fun x H1=>tl σ H1 fun l H2=>th σ H2 fun u H3=>r x l u H3 Q
theorem zOk {r:V->Option Int->Option Int->Hp->VK->Prop}(hr:SlR X r) (he:PE X e te) (hl:PO X lo tl) (hu:PO X hi th):PE X (.Subscript e (.Slice lo hi none p2) pos) (tSl r te tl th):=by
 intro pins s σ H Q I h
 refine Subscript_ (thn (he pins s σ H _ I h) fun v s1 hq1=>?_)
 obtain⟨x,H1,I1,r1,q1⟩:=hq1
 refine wpAny_Slice (thn (hl pins s1 σ H1 _ I1 q1) fun vl s2 ⟨l,H2,I2,pl,q2⟩=>thn (hu pins s2 σ H2 _ I2 q2) fun vu s3 hq1=>?_)
 obtain⟨u,H3,I3,pu,q3⟩:=hq1
 rw[evalPart_none]
 refine xf ?_
 have I4:Inv X pins σ H3 { s3 with heap:=s3.heap.push { cls:=.type "slice",data:=.fields #[vl,vu,.none] } }:=I3.kept (t':=s3.toks) fun b ob q=>xm _ q
 obtain⟨T,id,hT,ht,hg⟩:=hr pins { s3 with heap:=s3.heap.push { cls:=.type "slice",data:=.fields #[vl,vu,.none] } } σ H3 x v vl vu l u s3.heap.objs.size Q I4 r1 (Heap.IsSliceOf.new ..) pl pu q3
 show wpAny (model X.prog X.w) X.A (subscriptTail e (.Slice lo hi none p2) v (.ref s3.heap.objs.size)) (EP X pins σ Q) X.xe { s3 with heap:=s3.heap.push { cls:=.type "slice",data:=.fields #[vl,vu,.none] } }
 exact tail_any (ops:=[.ref s3.heap.objs.size,v]) ht hT hg (by with_unfolding_all rfl)
noncomputable def cutV (xs:List V) (lo hi:Option Int):List V:=(xs.drop (HT.sIx xs.length 0 lo)).take (HT.sIx xs.length xs.length hi-HT.sIx xs.length 0 lo)
theorem zDr (xs:List V) (lo hi:Option Int):(cutV xs lo hi).length<=xs.length:=by
 unfold cutV
 rw[vo,ua]
 lia
noncomputable def rSlT (K:PySem.W.Frag):V->Option Int->Option Int->Hp->VK->Prop:=fun x lo hi H Q=>∃a xs,x=.ref a/\SqT K H a xs /\
 ¬ (HT.sIx xs.length 0 lo=0/\HT.sIx xs.length xs.length hi=xs.length)/\∀p,H p=none->Q (.ref p) (upd H p (.tup (cutV xs lo hi)))
theorem zPx:SlR X (rSlT X.K):=by
 intro pins s σ H x v vl vu lo hi sl Q I rx hs pl pu h
 obtain⟨a,xs,rfl,hx,hw,q⟩:=h
 cases rx
 obtain⟨its,r,ht,hz⟩:=I.tuple hx
 have hlen:its.toArray.size=xs.length:=by rw[xq];exact r.length.symm
 refine⟨"tuple",_,vJ.lookup,ht.typeIs,?_⟩
 refine HT.getItem_tuple_cut ht hs pl pu (by rw[hlen];exact hw) ?_ (by rw[hlen];exact hz)
 rw[hlen]
 refine⟨.ref s.heap.objs.size,_,I.laid (t':=s.toks) (o:=.tup (cutV xs lo hi)) (fun b ob q=>xm _ q) (xi _) ?_,rfl,q _ (I.hok.fresh (xi _))⟩
 exact⟨xp (zDr xs lo hi) hz,_,(r.drop (HT.sIx xs.length 0 lo)).take (HT.sIx xs.length xs.length hi-HT.sIx xs.length 0 lo),IsTup.new _ _⟩
noncomputable def zY9 (K:PySem.W.Frag):R2:=fun x y H Q=>∃a b xs ys,x=.ref a/\y=.ref b/\SqT K H a xs/\SqT K H b ys/\xs≠[]/\xs.length+ys.length<=sizeLine /\
 (ys=[]->Q (.ref a) H)/\(ys≠[]->∀p,H p=none->Q (.ref p) (upd H p (.tup (xs++ys))))
theorem Vals.nil_iff {xs:List V}{us:List Value}(r:Vals xs us):us=[] <-> xs=[]:=by
 cases r with
 | nil=>simp
 | cons _ _=>simp
theorem zSg:OpR X (binaryOp .Add) (zY9 X.K):=by
 intro pins s σ H x y v u Q I rx ry h
 obtain⟨a,b,xs,ys,rfl,rfl,ha,hb,hx,hz,q1,q2⟩:=h
 cases rx
 cases ry
 obtain⟨its,r1,p1,_⟩:=I.tuple ha
 obtain⟨its2,r2,p2,_⟩:=I.tuple hb
 refine HT.cat_tup p1 p2 (fun z=>hx (r1.nil_iff.mp z)) (fun z=>⟨.ref a,H,I,rfl,q1 (r2.nil_iff.mp z)⟩) (fun z=>?_) (by rw[<- r1.length,<- r2.length];exact hz)
 refine⟨.ref s.heap.objs.size,_,I.laid (t':=s.toks) (o:=.tup (xs++ys)) (fun b ob q=>xm _ q) (xi _) ?_,rfl,q2 (fun w=>z (r2.nil_iff.mpr w)) _ (I.hok.fresh (xi _))⟩
 exact⟨by rw[xG];exact hz,_,r1.append r2,IsTup.new _ _⟩
end
end L2
namespace L2
open PySem PySem.Spec PyProof.Rows
noncomputable def ixN (n:Nat) (i:Int):Option Nat:=if 0<=i then(if i<n then some i.toNat else none)else if -(n:Int)<=i then some (i+n).toNat else none
noncomputable def atI {α:Type}(xs:List α) (i:Int):Option α:=(ixN xs.length i).bind fun j=>xs[j]?
theorem zSu {n:Nat}{i:Int}{j:Nat}(h:ixN n i=some j):seqIndex? i n=some j/\j<n/\-(n:Int)<=i/\i<n:=by
 unfold ixN at h
 by_cases h0:0<=i
 ·rw[xg h0]at h
  by_cases h1:i<n
  ·rw[xg h1]at h
   have e:i.toNat=j:=xP h
   exact⟨by rw[seqIndex_of h0 h1,e],by nofun,by nofun,h1⟩
  ·rw[xh h1]at h;cases h
 ·rw[xh h0]at h
  by_cases h1:-(n:Int)<=i
  ·rw[xg h1]at h
   have e:(i+n).toNat=j:=xP h
   exact⟨by rw[seqIndex_neg (by nofun) h1,e],by nofun,h1,by nofun⟩
  ·rw[xh h1]at h;cases h
theorem zHp {α:Type}{xs:List α}{i:Int}{v:α}(h:atI xs i=some v):∃j,seqIndex? i xs.length=some j/\xs[j]?=some v/\j<xs.length/\-(xs.length:Int)<=i/\i<xs.length:=by
 unfold atI at h
 cases e:ixN xs.length i with
 | none=>rw[e]at h;cases h
 | some j=>
  rw[e]at h
  obtain⟨h1,h2,h3,h4⟩:=zSu e
  exact⟨j,h1,h,h2,h3,h4⟩
noncomputable def zNe (b:Expr):Prop:=∀o i,subscripted b false o i=operate [o,i] (getItem o i)
noncomputable def IxR (X:Cx) (r:R2):Prop:=
 ∀(value slice:Expr) (pins:List (Addr × Obj)) (s:Shared) (σ:St) (H:Hp) (x y:V) (v u:Value) (Q:VK),Inv X pins σ H s->RelV x v->RelV y u->r x y H Q->
  subscripted slice false v u=operate [v,u] (getItem v u)->wpAny (model X.prog X.w) X.A (subscriptTail value slice v u) (EP X pins σ Q) X.xe s
noncomputable def MtR (X:Cx) (id:String) (r:V->List V->Hp->VK->Prop):Prop:=
 ∀(pins:List (Addr × Obj)) (s:Shared) (σ:St) (H:Hp) (x:V) (xs:List V) (v:Value) (us:List Value) (Q:VK),Inv X pins σ H s->RelV x v->Vals xs us->r x xs H Q->
  wpAny (model X.prog X.w) X.A (call (.builtin id) (v::us)) (EP X pins σ Q) X.xe s
section
variable {X:Cx}{a b:Expr}{ta tb:TE}{pos:Pos}
theorem zYg {r:R2}(hr:IxR X r) (ha:PE X a ta) (hb:PE X b tb) (hs:zNe b):PE X (.Subscript a b pos) (tOp r ta tb):=by
 intro pins s σ H Q I h
 exact Subscript_ (binT ha hb I h fun v u s2 x y H2 I2 rx ry q=>hr a b pins s2 σ H2 x y v u Q I2 rx ry q (hs _ _))
noncomputable def rIxL (K:PySem.W.Frag):R2:=fun x y H Q=>∃p xs i v,x=.ref p/\y=.int i/\SqL K H p xs/\atI xs i=some v/\Q v H
noncomputable def rIxT (K:PySem.W.Frag):R2:=fun x y H Q=>∃p xs i v,x=.ref p/\y=.int i/\SqT K H p xs/\atI xs i=some v/\Q v H
noncomputable def rIxS:R2:=fun x y H Q=>∃z i c,x=.str z/\y=.int i/\z.length<=sizeLine/\atI z.cps.toList i=some c/\Q (.str ⟨#[c]⟩) H
theorem zSt:IxR X (rIxL X.K):=by
 intro value slice pins s σ H x y v u Q I rx ry h hs
 obtain⟨p,xs,i,z,rfl,rfl,hq,he,q⟩:=h
 cases rx
 obtain⟨t,rfl⟩:=ry
 obtain⟨its,r,pl,hz⟩:=I.list hq
 obtain⟨j,h1,h2,h3,h4,h5⟩:=zHp he
 obtain⟨w,ew,rw'⟩:=r.get h2
 have hl:=r.length
 have hn:=line63
 have fin:EP X pins σ Q w s:=⟨z,H,I,rw',q⟩
 by_cases h0:0<=i
 ·have hj:i.toNat=j:=by
   rw[seqIndex_of h0 h5]at h1
   exact xP h1
  exact item_listR pl.isList h0 (by nofun) (by rw[hj];simpa using ew) fin hs
 ·have hj:(i+(its.toArray.size:Int)).toNat=j:=by
   rw[seqIndex_neg (by nofun) h4]at h1
   rw[xq,<- hl]
   exact xP h1
  exact subscriptTail_builtinR (x:=w) pl.isList.typeIs slot_list_getitem.lookup
   (wpAny_getItem_list_neg (Q:=fun r s'=>r=w/\EP X pins σ Q r s') pl.isList (by nofun) (by rw[xq] <;> lia) (by nofun) (by rw[hj];simpa using ew) ⟨rfl,fin⟩) hs
theorem zWd:IxR X (rIxT X.K):=by
 intro value slice pins s σ H x y v u Q I rx ry h hs
 obtain⟨p,xs,i,z,rfl,rfl,hq,he,q⟩:=h
 cases rx
 obtain⟨t,rfl⟩:=ry
 obtain⟨its,r,pl,hz⟩:=I.tuple hq
 obtain⟨j,h1,h2,h3,h4,h5⟩:=zHp he
 obtain⟨w,ew,rw'⟩:=r.get h2
 have hl:=r.length
 have hn:=line63
 have fin:EP X pins σ Q w s:=⟨z,H,I,rw',q⟩
 exact subscriptTail_builtinR (x:=w) pl.typeIs slot_tuple_getitem.lookup
  (getItem_tuple (j:=j) (Q:=fun r s'=>r=w/\EP X pins σ Q r s') pl (by nofun) (by nofun) (by rw[xq,<- hl];exact h1) (by simpa using ew) ⟨rfl,fin⟩) hs
theorem zWe:IxR X rIxS:=by
 intro value slice pins s σ H x y v u Q I rx ry h hs
 obtain⟨z,i,c,rfl,rfl,hz,he,q⟩:=h
 obtain⟨t,rfl⟩:=rx
 obtain⟨t',rfl⟩:=ry
 obtain⟨j,h1,h2,h3,h4,h5⟩:=zHp he
 have hl:z.cps.toList.length=z.length:=by simp[Str.length]
 rw[hl]at h1 h4 h5
 have hn:=line63
 exact tail_any (typeIs_str s z t) slot_str_getitem.lookup (getItem_str (c:=c) (by
  have e1:decide (i < -(2 ^ 63:Int))=false:=xy (by nofun)
  have e2:decide (i >= 2 ^ 63)=false:=xy (by nofun)
  rw[e1,e2,Bool.or_false]) (by rw[h1];simpa using h2) ⟨.str ⟨#[c]⟩,H,I.tok _,⟨_,rfl⟩,q⟩) hs
theorem zFz (lo hi:Option Int) (n:Nat):(sliceBounds lo hi none n).1=((HT.sIx n 0 lo:Nat):Int)/\(sliceBounds lo hi none n).2.1=((HT.sIx n n hi:Nat):Int)/\(sliceBounds lo hi none n).2.2=1:=by
 refine⟨?_,?_,rfl⟩
 ·cases lo with
  | none=>simp[sliceBounds,HT.sIx]
  | some i=>
   simp only[sliceBounds,HT.sIx,Option.getD_none,show(1:Int) > 0 by decide,xo]
   by_cases h:i<0
   ·simp only[h,xo] <;> lia
   ·simp only[h,xQ] <;> lia
 ·cases hi with
  | none=>simp[sliceBounds,HT.sIx]
  | some i=>
   simp only[sliceBounds,HT.sIx,Option.getD_none,show(1:Int) > 0 by decide,xo]
   by_cases h:i<0
   ·simp only[h,xo] <;> lia
   ·simp only[h,xQ] <;> lia
theorem zEu (its:List Value) (lo hi:Option Int):slicePick its.toArray lo hi none=((its.drop (HT.sIx its.length 0 lo)).take (HT.sIx its.length its.length hi-HT.sIx its.length 0 lo)).toArray:=by
 obtain⟨h1,h2,h3⟩:=zFz lo hi its.toArray.size
 unfold slicePick
 rw[h1,h2,h3]
 simp only[sliceRange_one,pick_run,xq] <;> rfl
noncomputable def rSlL (K:PySem.W.Frag):V->Option Int->Option Int->Hp->VK->Prop:=fun x lo hi H Q=>∃a xs,x=.ref a/\SqL K H a xs/\∀p,H p=none->Q (.ref p) (upd H p (.lst (cutV xs lo hi)))
theorem zR5:SlR X (rSlL X.K):=by
 intro pins s σ H x v vl vu lo hi sl Q I rx hs pl pu h
 obtain⟨a,xs,rfl,hx,q⟩:=h
 cases rx
 obtain⟨its,r,ht,hz⟩:=I.list hx
 have hlen:=r.length
 refine⟨"list",_,slot_list_getitem.lookup,ht.isList.typeIs,?_⟩
 refine wpAny_getItem_list_slice ht.isList hs pl pu .none (by simp) ?_ (by rw[xq] <;> lia)
 rw[zEu,<- hlen]
 refine⟨.ref s.heap.objs.size,_,I.laid (t':=s.toks) (o:=.lst (cutV xs lo hi)) (fun b ob q=>xm _ q) (xi _) ?_,rfl,q _ (I.hok.fresh (xi _))⟩
 exact⟨xp (zDr xs lo hi) hz,_,0,(r.drop (HT.sIx xs.length 0 lo)).take (HT.sIx xs.length xs.length hi-HT.sIx xs.length 0 lo),xD _ rfl⟩
theorem zGe:zAx X (.builtin "len") (fun xs H Q=>∃p ys,xs=[.ref p]/\(SqL X.K H p ys\/SqT X.K H p ys)/\Q (.int ys.length) H):=by
 intro pins s σ H xs us Q I r h
 obtain⟨p,ys,rfl,hq,q⟩:=h
 obtain⟨u,rfl,rx⟩:=vals1 r
 cases rx
 have hn:=line63
 rcases hq with hq|hq
 ·obtain⟨its,r',pl,hz⟩:=I.list hq
  have hlen:=r'.length
  exact Calls.call_len_list pl.isList (by simp only[xq] <;> lia) ⟨.int ys.length,H,I.tok _,⟨s.toks+1,by rw[xq,hlen]⟩,q⟩
 ·obtain⟨its,r',pl,hz⟩:=I.tuple hq
  have hlen:=r'.length
  exact len_tuple pl (by simp only[xq] <;> lia) ⟨.int ys.length,H,I.tok _,⟨s.toks+1,by rw[xq,hlen]⟩,q⟩
theorem zGd:zAx X (.builtin "len") (fun xs H Q=>∃z,xs=[.str z]/\z.length<=sizeLine/\Q (.int z.length) H):=by
 intro pins s σ H xs us Q I r h
 obtain⟨z,rfl,hz,q⟩:=h
 obtain⟨u,rfl,t,rfl⟩:=vals1 r
 have hn:=line63
 exact len_str (by nofun) ⟨.int z.length,H,I.tok _,⟨_,rfl⟩,q⟩
theorem zGc:zAx X (.type "list") (fun xs H Q=>∃p ys,xs=[.ref p]/\(SqL X.K H p ys\/SqT X.K H p ys)/\∀l,H l=none->Q (.ref l) (upd H l (.lst ys))):=by
 intro pins s σ H xs us Q I r h
 obtain⟨p,ys,rfl,hq,q⟩:=h
 obtain⟨u,rfl,rx⟩:=vals1 r
 cases rx
 have fin:∀(its:List Value),Vals ys its->ys.length<=sizeLine->∀(h':Heap) (c':Nat),(∀b o',s.heap.get? b=some o'->h'.get? b=some o')->
   h'.get? s.heap.objs.size=some { cls:=.type "list",dict:=none,data:=.seq its.toArray c',slots:=#[] }->EP X pins σ Q (.ref s.heap.objs.size) { s with heap:=h' }:=fun its r' hz h' c' kp e=>
  ⟨.ref s.heap.objs.size,_,I.laid (t':=s.toks) kp (xi _) (show ObjOk X.prog X.w _ h' _ (.lst ys)from⟨hz,its,c',r',e⟩),rfl,q _ (I.hok.fresh (xi _))⟩
 rcases hq with hq|hq
 ·obtain⟨its,r',pl,hz⟩:=I.list hq
  have hlen:=r'.length
  obtain⟨o,ho,hc,n,hd⟩:=pl.isList
  exact call_list_seq p (.inl rfl) ho hc hd (fun h' c' kp e=>fin its r' hz h' c' kp e) (by simp only[xq] <;> lia)
 ·obtain⟨its,r',pl,hz⟩:=I.tuple hq
  have hlen:=r'.length
  obtain⟨o,ho,hc,n,hd⟩:=pl
  exact call_list_seq p (.inr rfl) ho hc hd (fun h' c' kp e=>fin its r' hz h' c' kp e) (by simp only[xq] <;> lia)
theorem zBj:zAx X (.type "tuple") (fun xs H Q=>∃p ys,xs=[.ref p]/\((SqL X.K H p ys/\∀l,H l=none->Q (.ref l) (upd H l (.tup ys)))\/(SqT X.K H p ys/\Q (.ref p) H))):=by
 intro pins s σ H xs us Q I r h
 obtain⟨p,ys,rfl,h⟩:=h
 obtain⟨u,rfl,rx⟩:=vals1 r
 cases rx
 rcases h with⟨hq,q⟩|⟨hq,q⟩
 ·obtain⟨its,r',pl,hz⟩:=I.list hq
  have hlen:=r'.length
  refine call_tuple_list pl.isList (fun h' kp=>?_) (by simp only[xq] <;> lia)
  have I1:Inv X pins σ H { s with heap:=h' }:=I.kept (t':=s.toks) kp
  have I2:Inv X pins σ (upd H h'.objs.size (.tup ys)) { s with heap:=h'.push { cls:=.type "tuple",data:=.seq its.toArray } }:=
   I1.laid (t':=s.toks) (fun b o e=>xm _ e) (xi _) (show ObjOk X.prog X.w _ _ _ (.tup ys)from⟨hz,its,r',IsTup.new _ _⟩)
  exact⟨.ref h'.objs.size,_,I2,rfl,q _ (I1.hok.fresh (xi _))⟩
 ·obtain⟨its,r',pl,hz⟩:=I.tuple hq
  exact call_tuple_same pl ⟨.ref p,H,I,rfl,q⟩
noncomputable def tyV (K:PySem.W.Frag) (T:String) (x:V) (H:Hp):Prop:=match x with
 | .str _=>T="str"
 | .int _=>T="int"
 | .ref p=>(T="list"/\∃xs,SqL K H p xs)\/(T="tuple"/\∃o,K.lookup p=some o/\o.cls=.type "tuple"/\o.dict=none) \/
   (T="dict"/\((∃kvs,Rd H p (.dK kvs))\/∃kvs,Rd H p (.dT kvs)))\/(T="set"/\∃S n,H p=some (.set S n))
 | _=>False
theorem zPt {pins:List (Addr × Obj)}{σ:St}{H:Hp}{s:Shared}{T:String}{x:V}{v:Value}(I:Inv X pins σ H s) (r:RelV x v) (ty:tyV X.K T x H):
  s.TypeIs v T/\∀a,v=.ref a->∃ob,s.heap.get? a=some ob/\ob.dict=none:=by
 cases x with
 | str z=>
  obtain⟨t,rfl⟩:=r
  cases(show T="str" from ty)
  exact⟨typeIs_str s z t,fun _ e=>nomatch e⟩
 | int i=>
  obtain⟨t,rfl⟩:=r
  cases(show T="int" from ty)
  exact⟨typeIs_int s i t,fun _ e=>nomatch e⟩
 | ref p=>
  cases r
  rcases ty with⟨rfl,xs,hq⟩|⟨rfl,o,hk,hc,hd⟩|⟨rfl,hk⟩|⟨rfl,S,n,hk⟩
  ·obtain⟨its,_,pl,_⟩:=I.list hq
   refine⟨pl.isList.typeIs,fun a e=>?_⟩
   cases e
   obtain⟨o,n,e,c,hd,_⟩:=pl
   exact⟨o,e,hd⟩
  ·refine⟨⟨o,I.kIn p o hk,hc⟩,fun a e=>?_⟩
   cases e
   exact⟨o,I.kIn _ o hk,hd⟩
  ·have z:∃o,s.heap.get? p=some o/\o.ExactDict:=by
    rcases hk with⟨kvs,hk⟩|⟨kvs,hk⟩
    ·obtain⟨_,_,_,_,o,_,_,e,ex,_⟩:=(show ObjOk X.prog X.w H s.heap p (.dK kvs)from zNx I.hok hk)
     exact⟨o,e,ex⟩
    ·obtain⟨_,_,_,_,o,_,_,e,ex,_⟩:=(show ObjOk X.prog X.w H s.heap p (.dT kvs)from zNx I.hok hk)
     exact⟨o,e,ex⟩
   obtain⟨o,e,ex⟩:=z
   refine⟨⟨o,e,ex.1⟩,fun a e2=>?_⟩
   cases e2
   exact⟨o,e,ex.2.1⟩
  ·obtain⟨o,_,_,_,e,ex,_⟩:=I.hok p _ hk
   refine⟨⟨o,e,ex.1⟩,fun a e2=>?_⟩
   cases e2
   exact⟨o,e,ex.2.1⟩
 | _=>exact False.elim ty
noncomputable def tBM0 (K:PySem.W.Frag) (T:String) (r:V->List V->Hp->VK->Prop) (to:TE):TE:=fun σ H Q=>to σ H fun x H1=>tyV K T x H1/\r x [] H1 Q
noncomputable def tBM (K:PySem.W.Frag) (T:String) (r:V->List V->Hp->VK->Prop) (to:TE) (t:TA):TE:=fun σ H Q=>to σ H fun x H1=>tyV K T x H1/\t σ H1 fun xs H2=>r x xs H2 Q
variable {o e:Expr}{es:List Expr}{to:TE}{t:TA}{name:Str}{apos cpos:Pos}{T id:String}{r:V->List V->Hp->VK->Prop}
theorem zVk (pa:PlainAttrs T) (slot:Slot T name id) (hty:typeOf (.builtin id)=pure (.type "method_descriptor")) (hm:MtR X id r) (ho:PE X o to)
  (hbase:attributeBase o name X.env (eval o X.env)=eval o X.env:=by rfl) (hline:(apos.endLine == cpos.line)=true:=by rfl):PE X (.Call (.Attribute o name apos) [] [] cpos) (tBM0 X.K T r to):=by
 intro pins s σ H Q I h
 refine wpAny_Call_method0_late hbase hline (thn (ho pins s σ H _ I h) fun v s1 hq1=>?_)
 obtain⟨x,H1,I1,r1,ty,q1⟩:=hq1
 obtain⟨h1,h2⟩:=zPt I1 r1 ty
 exact⟨T,id,pa,slot,hty,h1,h2,Calls.callWith_builtin rfl (PySem.evalArgs_none (hm pins s1 σ H1 x [] v [] Q I1 r1 .nil q1))⟩
theorem zYh (pa:PlainAttrs T) (slot:Slot T name id) (hty:typeOf (.builtin id)=pure (.type "method_descriptor")) (hm:MtR X id r) (ho:PE X o to) (ha:PA X (e::es) t)
  (hbase:attributeBase o name X.env (eval o X.env)=eval o X.env:=by rfl)
  (hfew:((backTo cpos (starEach (e::es) X.env)).all (fun x=>!x.1) && (backToKw cpos (keywordEach [] X.env)).all (fun x=>x.1.isSome)
   && decide ((e::es).length+([]:List Keyword).length+(if([]:List Keyword).isEmpty then 0 else 1)<30))=true:=by rfl)
  (hline:(apos.endLine == cpos.line)=true:=by rfl) (hs:starEach (e::es) X.env=(false,eval e X.env)::starEach es X.env:=by rfl) (hplain:(backTo cpos (starEach es X.env)).any (·.1)=false:=by rfl):
  PE X (.Call (.Attribute o name apos) (e::es) [] cpos) (tBM X.K T r to t):=by
 intro pins s σ H Q I h
 refine wpAny_Call_method_late hbase hfew hline rfl (thn (ho pins s σ H _ I h) fun v s1 hq1=>?_)
 obtain⟨x,H1,I1,r1,ty,q1⟩:=hq1
 obtain⟨h1,h2⟩:=zPt I1 r1 ty
 refine⟨T,id,pa,slot,hty,h1,h2,?_⟩
 have hA:=ha cpos pins s1 σ H1 _ I1 q1
 rw[hs]at hA ⊢
 refine Calls.callWith_builtin (by show(false || (backTo cpos (starEach es X.env)).any (·.1))=false;rw[hplain] <;> rfl) (Calls.evalArgs_plain ?_)
 exact thn hA fun us s2 hz9=>by obtain⟨vs,H2,I2,r2,q2⟩:=hz9;exact hm pins s2 σ H2 x vs v us Q I2 r1 r2 q2
end
end L2
namespace L2
open PySem PySem.Spec PyProof.Rows
noncomputable def MtM (X:Cx) (id:String) (r:V->List V->Hp->VK->Prop):Prop:=
 ∀(pins:List (Addr × Obj)) (s:Shared) (σ:St) (H:Hp) (x:V) (xs:List V) (v:Value) (us:List Value) (Q:VK),Inv X pins σ H s->RelV x v->Vals xs us->r x xs H Q->
  wpAny (model X.prog X.w) X.A (call (.builtin id) (v::us)) (EP X pins σ Q) X.xe s
theorem Vals.one:∀{x:V}{us:List Value},Vals [x] us->∃u,us=[u]/\RelV x u
 | _,_,.cons r .nil=>⟨_,rfl,r⟩
theorem Vals.zero:∀{us:List Value},Vals [] us->us=[]
 | _,.nil=>rfl
theorem Vals.dropLast {xs:List V}{us:List Value}(h:Vals xs us):Vals xs.dropLast us.dropLast:=by
 induction h with
 | nil=>exact .nil
 | cons r t ih=>
  cases t with
  | nil=>exact .nil
  | cons q t'=>exact .cons r ih
theorem Vals.reverse {xs:List V}{us:List Value}(h:Vals xs us):Vals xs.reverse us.reverse:=by
 induction h with
 | nil=>exact .nil
 | cons r t ih=>rw[List.reverse_cons,List.reverse_cons];exact Vals.append ih (.cons r .nil)
theorem zJf {α:Type}(l:List α):l.eraseIdx (l.length-1)=l.dropLast:=by
 induction l with
 | nil=>rfl
 | cons a r ih=>
  cases r with
  | nil=>rfl
  | cons b r=>
   have e:(a::b::r).length-1=((b::r).length-1)+1:=by
    have h1:(a::b::r).length=r.length+2:=rfl
    have h2:(b::r).length=r.length+1:=rfl
    lia
   rw[e,List.eraseIdx_cons_succ,ih]
   all_goals rfl
section
variable {X:Cx}{pins:List (Addr × Obj)}{σ:St}{H:Hp}{s:Shared}{l b:Addr}{xs ys zs:List V}
theorem Inv.lset {its its':List Value}{n:Nat}{f:Array Value->Array Value}{t':Nat}(I:Inv X pins σ H s) (hH:H l=some (.lst xs))
  (e:s.heap.get? l=some { cls:=.type "list",data:=.seq its.toArray n }) (hf:f its.toArray=its'.toArray) (hv:Vals ys its') (hz:ys.length<=sizeLine):
  Inv X pins σ (upd H l (.lst ys)) { s with heap:=s.heap.update l (Obj.mapSeq f),toks:=t' }:=by
 have q:=PySem.IsL.update e f
 rw[hf]at q
 refine I.write (x:=l) (e:=l) (by rw[hH];exact trivial) (.inl rfl) (fun b' u hb hu=>(yc s.heap (Obj.mapSeq f) (xw hb)).trans hu) ⟨_,q⟩ ?_
 exact⟨hz,its',_,hv,q⟩
theorem Inv.lnew {its:List Value}{t':Nat}(I:Inv X pins σ H s) (hv:Vals ys its) (hz:ys.length<=sizeLine):
  Inv X pins σ (upd H s.heap.objs.size (.lst ys)) { s with heap:=s.heap.push { cls:=.type "list",data:=.seq its.toArray },toks:=t' }:=
 I.laid (fun _ _ q=>xm _ q) (xi _) ⟨hz,its,0,hv,xD _ rfl⟩
theorem Inv.fresh (I:Inv X pins σ H s):H s.heap.objs.size=none:=I.hok.fresh (xi _)
theorem Inv.lstM (I:Inv X pins σ H s) (hH:H l=some (.lst xs)):xs.length<=sizeLine/\∃(its:List Value) (n:Nat),Vals xs its/\xs.length=its.length/\s.heap.get? l=some { cls:=.type "list",data:=.seq its.toArray n }:=by
 obtain⟨z,its,n,r,e⟩:=I.hok l _ hH
 exact⟨z,its,n,r,r.length,e⟩
end
section
variable {X:Cx}
noncomputable def zRc:V->List V->Hp->VK->Prop:=fun x vs H Q=>∃l xs y,x=.ref l/\vs=[y]/\H l=some (.lst xs)/\xs.length<sizeLine/\Q .non (upd H l (.lst (xs++[y])))
theorem zLf:MtM X "list.append" zRc:=by
 intro pins s σ H x vs v us Q I rx rv h
 obtain⟨l,xs,y,rfl,rfl,hH,hz,q⟩:=h
 cases rx
 obtain⟨u,rfl,ru⟩:=rv.one
 obtain⟨z,its,n,r,hl,e⟩:=I.lstM hH
 refine call_meets F.slot_list_append ⟨_,e,rfl⟩ F.entry_list_append (F.args_list_append_2 _ _) (PySem.list_append l its.toArray n u (by rw[xq];lia)) ⟨e,?_⟩
 refine⟨.non,_,I.lset (its':=its++[u]) hH e (by simp) (r.append (.cons ru .nil)) ?_,rfl,q⟩
 rw[xG,List.length_singleton]
 lia
noncomputable def rPop:V->List V->Hp->VK->Prop:=fun x vs H Q=>∃l xs y,x=.ref l/\vs=[]/\H l=some (.lst xs)/\xs[xs.length-1]?=some y/\Q y (upd H l (.lst xs.dropLast))
theorem zVz:MtM X "list.pop" rPop:=by
 intro pins s σ H x vs v us Q I rx rv h
 obtain⟨l,xs,y,rfl,rfl,hH,hy,q⟩:=h
 cases rx
 have hus:=rv.zero
 subst hus
 obtain⟨z,its,n,r,hl,e⟩:=I.lstM hH
 obtain⟨u,hu,ru⟩:=r.get hy
 have hy':its.toArray[its.toArray.size-1]?=some u:=by
  show its.toArray[its.length-1]?=some u
  rw[<- uo,<- hl]
  exact hu
 refine call_meets F.slot_list_pop ⟨_,e,rfl⟩ F.entry_list_pop (F.args_list_pop_1 _) (MeetsSeq.list_pop_last l its.toArray n u hy' (by rw[xq];lia)) ⟨e,?_⟩
 refine⟨y,_,I.lset (its':=its.dropLast) hH e ?_ r.dropLast ?_,ru,q⟩
 ·show its.toArray.eraseIdxIfInBounds (its.toArray.size-1)=its.dropLast.toArray
  rw[xq,List.eraseIdxIfInBounds_toArray,zJf]
 ·rw[List.length_dropLast]
  lia
end
end L2
namespace Att
open PySem PySem.W PySem.Calls PyProof.Rows
theorem zDo {P:Params}{h:Heap}:∀(ns:List Int) (vs:List Value),WellAll P h vs (ns.map WData.int)->IntsAre vs ns:=by
 intro ns
 induction ns with
 | nil=>
  intro vs w
  rw[vH]at w
  cases w
  exact .nil
 | cons n ns ih=>
  intro vs w
  rw[xx]at w
  cases w with
  | cons a b=>
   cases a
   exact .cons _ _ (ih _ b)
theorem zKj {l:OpenLaw}{n:Nat}(hn:l.most=some n) {P:Params}{h:Heap}{args:List WData}{vals:List Value}
  (hpre:l.row.toRowW.claim.pre args=true) (hwl:WellAll P h vals args):
  ∃a vs ns,vals=[Value.ref a]/\args=[WData.list (ns.map WData.int)]/\h.get? a=some { cls:=.type "list",data:=.seq vs.toArray }/\IntsAre vs ns/\ns.length<=n:=by
 have hsh:WShape.hasAll [] args [.list .int]=true:=(pre_splitW hpre).1
 have hc:l.pre.holds [] { args:=args }=true:=(pre_splitW hpre).2
 obtain⟨d,r,rfl,h1,h2⟩:=hasAllW_cons hsh
 obtain rfl:=hasAllW_nil h2
 obtain⟨xs,rfl,h3⟩:=hasW_list h1
 obtain⟨ns,rfl⟩:=items_int h3
 have hlen:ns.length<=n:=by
  unfold OpenLaw.pre at hc
  have h4:(WTm.not (.lt (.lit (.int (n:Int))) (.len (.arg 0)))).holds [] { args:=[.list (ns.map .int)] }=true:=by
   have h4:=(holds_andW hc).1
   rw[hn]at h4
   exact h4
  have h5:=condW_of h4 (w_not (w_lt w_lit (w_len_list (w_arg rfl))))
  rw[xF]at h5
  refine Nat.le_of_not_lt fun q=>?_
  have q':(n:Int)<((ns.length:Nat):Int):=by nofun
  first
   | (rw[xB q']at h5;exact absurd h5 (by decide))
   | (simp at h5;lia)
 cases hwl with
 | cons w1 w2=>
  cases w2
  cases w1 with
  | list ho hall=>exact⟨_,_,ns,rfl,rfl,ho,zDo ns _ hall,hlen⟩
theorem zKx (l:OpenLaw) (args:List WData):l.row.toRowW.claim.post args (.bool true) args=true:=
 postW_of (r:=l.row.toRowW) (X:=(true == true))
  (show WShape.has [] (.bool true) .bool=true by first|rfl|decide|simp[WShape.has,WShape.arms,WShape.armsAll])
  (show(WTm.eq .res (.lit (.bool true))).value [] { args:=args,res:=some (.bool true),after:=args }=some (.bool (true == true))from w_eq_bool (w_res rfl) w_lit) rfl
theorem attach_call {l:OpenLaw}{n:Nat}{q:Program}{loose:List Str}{XP:(Str->Option Value)->Heap->Prop}{YP:World->Heap->Prop}{d:DefRec}
  (hn:l.most=some n) (hdf:d.params.defaults=[])
  (call:∀(w:World) (s₀ s₁:Shared) (mg mb:Str->Option Value) (fa:Addr) (o:Obj) (pm cd doc:Value) (a:Addr) (vs:List Value) (ns:List Int),
   Ground q loose [] XP w s₀ mg mb s₁.heap->YP w s₁.heap->
   s₁.heap.get? fa=some o->o.data=.func (docDef d.name d.params d.body d.scope pm cd doc)->s₁.heap.CodeRec cd d.name->mg d.name=some (.ref fa)->
   s₁.heap.get? a=some { cls:=.type "list",data:=.seq vs.toArray }->IntsAre vs ns->ns.length<=n->s₁.gens=#[]->
   codeAny (model l.prog w) callerA (.call (.ref fa) ⟨[.ref a],[]⟩) (fun r s'=>r=.ok (.ret (.bool true))/\OldK s₁.heap s'.heap/\s'.os=s₁.os/\AllBare s'.gens) s₁):
  WalkO q loose XP YP l.row.toRowW d [] (fun f vs=>PySem.call f vs):=by
 intro w s₀ s₁ mg mb G Y fa o pm cd doc dV kV ho hd hcd hD hmg hg args vals as hpre hlay hrd hwl hlo
 obtain rfl:dV=.none:=Dflts.none hD hdf
 obtain rfl:kV=.none:=Dflts.noKw hD
 obtain⟨a,vs,ns,rfl,rfl,hobj,hints,hlen⟩:=zKj hn hpre hwl
 refine enter_call (uh (call w s₀ s₁ mg mb fa o pm cd doc a vs ns G Y ho (fd_plain hd) hcd hmg hobj hints hlen hg) fun r s' hq=>?_)
 obtain⟨rfl,h2,h3,h4⟩:=hq
 exact⟨.inl ⟨.bool true,.bool true,[],rfl,fun _=>rfl,.bool true,zKx l _,fun _=>⟨List.Pairwise.nil,fun _ hm=>(nomatch hm)⟩⟩,h2,h3,h4⟩
end Att
namespace L2
open PySem PySem.Spec PyProof.Rows
theorem zFu:∀{vs:List Value}{ns:List Int},IntsAre vs ns->Vals (ns.map V.int) vs
 | _,_,.nil=>.nil
 | _,_,.cons n t h=>.cons ⟨t,rfl⟩ (zFu h)
noncomputable def Only (H:Hp):Prop:=∀b,H b=none\/∃o xs,H b=some (.frz o (.lst xs))
theorem law_call {P:Program}{w:World}{K:PySem.W.Frag}{mg mb:Str->Option Value}{CX:CXT}{k:Nat}{fa a:Addr}{fd:FuncData}{x:Str}{sp:Sp}{s₁:Shared}{vs:List Value}{ns:List Int}
  (KX:K.In s₁.heap) (hns:s₁.heap.Ns mainGlobals mg) (hb:s₁.heap.Ns builtinsNs mb) (hbb:∀x:Str,x≠"__name__"->mb x=bootBuiltins x) (hlim:s₁.heap.NoLimit) (hg:s₁.gens=#[])
  (ha:s₁.heap.get? a=some { cls:=.type "list",data:=.seq vs.toArray }) (hi:IntsAre vs ns) (hl:ns.length<=sizeLine) (hr:Room k callerA)
  (F:∀base:Heap,K.In base->base.Ns mainGlobals mg->FnOk P w K mg base CX k fa fd [x] sp) (hbind:∀(s:Shared) (u:Value),BindsTo s fd ⟨[u],[]⟩ [(x,u)])
  (hsp:∀H:Hp,Only H->SqL K H a (ns.map V.int)->sp [.ref a] H (fun v _=>v=.bl true) fun _ _ _=>False)
  (hCX:∀H e s',CX [] H s₁ (fun _ _ _=>False) e s'->False):
  codeAny (model P w) callerA (.call (.ref fa) ⟨[.ref a],[]⟩) (fun r s'=>r=.ok (.ret (.bool true))/\OldK s₁.heap s'.heap/\s'.os=s₁.os/\AllBare s'.gens) s₁:=by
 have rv:=zFu hi
 have lenV:=hi.length
 -- from an abstract heap in which nothing but the script may be tracked
 have core:∀H:Hp,Only H->SqL K H a (ns.map V.int)->HOk P w H s₁.heap->(∀b,H b≠none->b=a)->(H a≠none->K.lookup a=none)->
   codeAny (model P w) callerA (.call (.ref fa) ⟨[.ref a],[]⟩) (fun r s'=>r=.ok (.ret (.bool true))/\OldK s₁.heap s'.heap/\s'.os=s₁.os/\AllBare s'.gens) s₁:=by
  intro H hO hS hok hA hK
  have zDt:∀{b:Addr}{o:Obj},s₁.heap.get? b=some o->H b=none->(hidT s₁.heap H).get? b=some o:=fun e n=>zP6 e n
  have noA:∀{b:Addr}{o:Obj}{es:Array DictEntry}{ep:Nat},s₁.heap.get? b=some o->o.data=.dict es ep->H b=none:=fun {b o es ep} e d=>by
   cases q:H b with
   | none=>rfl
   | some u=>
    have e':b=a:=hA b (by rw[q];simp)
    subst e'
    rw[ha]at e;cases e
    have d':Data.seq vs.toArray _=Data.dict es ep:=d
    cases d'
  have nsK:∀{b:Addr}{m:Str->Option Value},s₁.heap.Ns b m->(hidT s₁.heap H).Ns b m:=fun {b m} ⟨o,es,ep,e,d,r⟩=>⟨o,es,ep,zDt e (noA e d),d,r⟩
  have hKb:K.In (hidT s₁.heap H):=fun b o e=>zDt (KX b o e) (by
   cases q:H b with
   | none=>rfl
   | some u=>
    have e':b=a:=hA b (by rw[q];simp)
    subst e'
    rw[hK (by rw[q];simp)]at e;cases e)
  have hM:Mod K mg (hidT s₁.heap H):=⟨hKb,nsK hns,⟨mb,nsK hb,hbb⟩,let ⟨mc,h1,h2⟩:=hlim;⟨mc,nsK h1,h2⟩⟩
  have e0:Env0 P w K mg (hidT s₁.heap H) callerA [] s₁ H:=⟨rfl,hM,fun b o e=>zSi e,Nat.le_of_eq (zM3 _ _),trivial,fun b hb=>absurd (show b∈([]:List Addr)from hb) (by simp),hok,.of_eq hg,rfl⟩
  refine uh ((F _ hKb (nsK hns)).run callerA [] s₁ H ⟨[.ref a],[]⟩ [.ref a] [.ref a] _ _ hr e0 (hbind s₁ (.ref a)) (.cons rfl .nil) (hsp H hO hS)) fun r s' h=>?_
  cases r with
  | error e=>exact(hCX H e s' h).elim
  | ok fl=>
   cases fl with
   | next=>exact False.elim h
   | brk=>exact False.elim h
   | cont=>exact False.elim h
   | ret u=>
    obtain⟨v,H',os,bare,un,hok',r',q⟩:=h
    have q':v=.bl true:=q
    subst q'
    obtain rfl:u=Value.bool true:=r'
    refine⟨rfl,OldK.of_keep fun b o e=>?_,os,bare⟩
    cases q:H b with
    | none=>exact un.keep b o e q (by intro z;exact absurd (show b∈([]:List Addr)from z) (by simp)) (by simp)
    | some u=>
     rcases hO b with z|⟨ob,xs,z⟩
     ·rw[q]at z;cases z
     ·have z2:=un.frzs b ob _ z
      obtain⟨e1,_⟩:=hok b _ z
      obtain⟨e2,_⟩:=hok' b _ z2
      rw[e]at e1;cases e1
      exact e2
 cases hk:K.lookup a with
 | some o=>
  -- the script is one of the module's own objects
  have e:=KX a o hk
  rw[ha]at e
  cases e
  refine core (fun _=>none) (fun _=>.inl rfl) (.inr ⟨_,vs.toArray,_,hk,rfl,rfl,rfl,by rw[xq,lenV];exact hl,by simpa using rv⟩) (fun b u z=>by have z':(none:Option HO)=some u:=z;cases z') (fun b z=>absurd rfl z) fun z=>absurd rfl z
 | none=>
  refine core (fun b=>if b=a then some (.frz { cls:=.type "list",data:=.seq vs.toArray } (.lst (ns.map V.int)))else none) (fun b=>?_) (.inl (.inr ⟨{ cls:=.type "list",data:=.seq vs.toArray },xg rfl⟩)) (fun b u z=>?_) (fun b z=>?_) fun _=>hk
  ·by_cases hb:b=a
   ·exact .inr ⟨_,_,xg hb⟩
   ·exact .inl (xh hb)
  ·by_cases hb:b=a
   ·have z':=(xg hb).symm.trans z
    cases z'
    subst hb
    exact⟨ha,by rw[xF];exact hl,vs,_,rv,ha⟩
   ·have z':=(xh hb).symm.trans z
    cases z'
  ·by_cases hb:b=a
   ·exact hb
   ·exact absurd (xh hb) z
end L2
namespace L2
open PySem PySem.Spec PyProof.Rows
theorem walk_of {l:PySem.W.OpenLaw}{n k:Nat}{q:Program}{loose:List Str}{XP:(Str->Option Value)->Heap->Prop}{YP:World->Heap->Prop}{d:DefRec}{K:Params->PySem.W.Frag}{CX:World->CXT}{sp:World->Sp}{x:Str}
  (hn:l.most=some n) (hn2:n<=sizeLine) (hdf:d.params.defaults=[]) (hr:Room k callerA)
  (hY:∀(w:World) (h:Heap),YP w h->(K w.params).In h)
  (F:∀(w:World) (mg:Str->Option Value) (fa:Addr) (h:Heap),(K w.params).In h->h.Ns mainGlobals mg->mg d.name=some (.ref fa)->
   ∃fd:FuncData,(∀(s:Shared) (u:Value),BindsTo s fd ⟨[u],[]⟩ [(x,u)]) /\
    ∀base:Heap,(K w.params).In base->base.Ns mainGlobals mg->FnOk l.prog w (K w.params) mg base (CX w) k fa fd [x] (sp w))
  (hsp:∀(w:World) (H:Hp) (a:Addr) (ns:List Int),ns.length<=n->Only H->SqL (K w.params) H a (ns.map V.int)->sp w [.ref a] H (fun v _=>v=.bl true) fun _ _ _=>False)
  (hCX:∀(w:World) (H:Hp) (s:Shared) (e:Value) (s':Shared),CX w [] H s (fun _ _ _=>False) e s'->False):
  PySem.W.WalkO q loose XP YP l.row.toRowW d [] (fun f vs=>PySem.call f vs):=by
 refine Att.attach_call hn hdf fun w s₀ s₁ mg mb fa o pm cd doc a vs ns G Y ho hd hcd hmg hobj hints hlen hg=>?_
 have KX:=hY w _ Y
 obtain⟨fd,hb,hF⟩:=F w mg fa _ KX G.T.g hmg
 exact law_call KX G.T.g G.T.b G.T.builtins G.T.nolimit hg hobj hints (xp hlen hn2) hr hF hb (fun H hO hS=>hsp w H a ns hlen hO hS) fun H e s'=>hCX w H s₁ e s'
end L2
namespace L2
open PySem PySem.Spec PyProof.Rows
noncomputable def zBi (s:Stmt):Arguments:=match s with
 | .FunctionDef _ a _ _ _ _ _ _ _ _=>a
 | _=>{ posonlyargs:=[],args:=[],vararg:=none,kwonlyargs:=[],kw_defaults:=[],kwarg:=none,defaults:=[] }
noncomputable def zAr (s:Stmt):List Stmt:=match s with
 | .FunctionDef _ _ b _ _ _ _ _ _ _=>b
 | _=>[]
noncomputable def zA5 (s:Stmt):Scope:=match s with
 | .FunctionDef _ _ _ _ _ _ sc _ _ _=>sc
 | _=>{ kind:=.function,names:=[],isGenerator:=false,isCoroutine:=false }
noncomputable abbrev CX0:CXT:=fun _ _ _ _ _ _=>False
noncomputable abbrev E0:XK:=fun _ _ _=>False
theorem pass0 {X:Cx}:Passes CX0 X E0:=fun _ _ _ _ _ _ _ h=>h.elim
structure Fun (K:PySem.W.Frag) (x qual:Str) (st:Stmt) (f:Addr) (fd:FuncData):Prop where
 ex:∃(oc:Value) (od:Option Addr) (kV doc pm:Value) (an:Option Addr) (cdv ct:Value) (osl:Array (Option Value)),
  fd=PySem.W.fnOf x qual (zBi st) (zAr st) (zA5 st) .none kV doc pm an cdv ct/\K.lookup f=some ⟨oc,od,.func fd,osl⟩/\PySem.W.codeIn K cdv qual=true
 kp:PySem.W.keepIn K (.ref f)=true
section
variable {P:Program}{w:World}{K:PySem.W.Frag}{mg:Str->Option Value}{base:Heap}
theorem Fun.ok {x qual:Str}{st:Stmt}{f:Addr}{fd:FuncData}{N ps:List Str}{k:Nat}{sp:Sp}(F:Fun K x qual st f fd) (S:zCu N ps (zA5 st)) (len:∀vs H Q E,sp vs H Q E->vs.length=ps.length)
  (hbody:∀(cdv:Value) (A:Around) (outer:List Env) (s:Shared) (H:Hp) (vs:List V) (Q:VK) (E:XK),Room k (A.deeper (envOfC qual (zA5 st) s.heap.objs.size f cdv))->sp vs H Q E->
   ∃t,PSs (cxOf CX0 P w K mg base N qual (zA5 st) f cdv A outer s H E).nox (zAr st) t/\t { nx:=fun _ H'=>Q .non H',rt:=Q } (start N vs) H):FnOk P w K mg base CX0 (k+1) f fd ps sp:=by
 obtain⟨oc,od,kV,doc,pm,an,cdv,ct,osl,rfl,lk,hcd⟩:=F.ex
 refine zYp lk hcd S len fun A outer s H vs Q E hr hsp=>?_
 obtain⟨t,h,q⟩:=hbody cdv A outer s H vs Q E hr hsp
 exact⟨t,h.nox,q⟩
theorem Fun.binds {x qual:Str}{st:Stmt}{f:Addr}{fd:FuncData}{ps:List Str}(F:Fun K x qual st f fd)
  (h:∀(kV doc pm:Value) (an:Option Addr) (cdv ct:Value) (us:List Value),us.length=ps.length->bindArgs (PySem.W.fnOf x qual (zBi st) (zAr st) (zA5 st) .none kV doc pm an cdv ct) ⟨us,[]⟩=pure (ps.zip us)):Binds K fd ps []:=by
 obtain⟨oc,od,kV,doc,pm,an,cdv,ct,osl,rfl,lk,hcd⟩:=F.ex
 exact .all (h kV doc pm an cdv ct)
theorem zWm {x qual:Str}{st:Stmt}{f:Addr}{oc:Value}{od an:Option Addr}{osl:Array (Option Value)}{kV doc pm cdv ct:Value}(l:K.lookup f=some ⟨oc,od,.func (PySem.W.fnOf x qual (zBi st) (zAr st) (zA5 st) .none kV doc pm an cdv ct),osl⟩)
  (c:PySem.W.codeIn K cdv qual=true) (k:PySem.W.keepIn K (.ref f)=true):Fun K x qual st f (PySem.W.fnOf x qual (zBi st) (zAr st) (zA5 st) .none kV doc pm an cdv ct):=⟨⟨oc,od,kV,doc,pm,an,cdv,ct,osl,rfl,l,c⟩,k⟩
end
theorem zYo {A:Around}{k:Nat}(hr:Room k A):A.units+1<cLine:=Nat.lt_of_le_of_lt (Nat.add_le_add_left (by decide:1<=64) _) hr.units
section
variable {X:Cx}
theorem pv (i:Nat) {x:Str}{pos:Pos}(hN:X.N[i]?=some x:=by rfl) (hv:Vis X.env.scope x:=by first|exact Or.inl rfl|exact Or.inr (Or.inl rfl)|exact Or.inr (Or.inr rfl)) (hd:(x == ("__debug__":Str))=false:=by decide)
  (hcd:(x == ("__classdict__":Str))=false:=by decide):PE X (.Name x pos) (tVar i):=zVb hN hv hd hcd
end
end L2
namespace L2
open PySem PySem.Spec PyProof.Rows
section
variable {prog:Program}{w:World}{A:Around}{R:Result->Shared->Prop}{s:Shared}
theorem zGa {elt target iter:Expr}{ifs:List Expr}{scope:Scope}{pos:Pos}{it acc:Value}{env:Env}(I:Nat->Shared->Prop)
  (turn:∀n s,I n s->wpAny (model prog w) A (pyNext it) (fun r s₁=>match r with
   | none=>R (.ok .next) s₁
   | some v=>wpAny (model prog w) A (letOwnedTupleGo target it v) (fun _ s₂=>wpAny (model prog w) A (assign target env v) (fun _ s₂=>
     wpAny (model prog w) A (forIn ifs true fun c r=>if r=true then do let ok <- isTrue c env (eval c env);pure (ForInStep.yield ok)else pure (ForInStep.yield r)) (fun ok s₃=>
      if ok=true then wpAny (model prog w) A (eval elt env) (fun x s₄=>
       wpAny (model prog w) A (call (.builtin "list.append") [acc,x]) (fun _ s₅=>∃m,m<n/\I m s₅) (fun _ _=>False) s₄) (fun _ _=>False) s₃
      else ∃m,m<n/\I m s₃) (fun _ _=>False) s₂) (fun _ _=>False) s₂) (fun _ _=>False) s₁) (fun _ _=>False) s)
  (n:Nat) (h:I n s):
  codeAny (model prog w) A (.compLoop (.ListComp elt [⟨target,iter,ifs,0⟩] scope pos) 0 it acc env) R s:=by
 refine codeAny_loop rfl I (fun n s hI=>?_) n h
 show wpAny _ A ((compTurn (.ListComp elt [⟨target,iter,ifs,0⟩] scope pos) 0 it acc env).onRaise (fun x=>do noteFrame x env;theTreesLotGoes x)) _ _ s
 refine wpAny_noted ?_
 rw[compTurn_list]
 refine xc (wpAny_standAt (xc (vt (turn n s hI) (fun r s₁ h₁=>?_) fun _ _ h'=>h'.elim)))
 cases r with
 | none=>exact xf h₁
 | some v=>
  refine xc (vt h₁ (fun _ s₁' h₁=>?_) fun _ _ h'=>h'.elim)
  refine xc (vt h₁ (fun _ s₂ h₂=>xc (vt h₂ (fun ok s₃ h₃=>?_) fun _ _ h'=>h'.elim)) fun _ _ h'=>h'.elim)
  cases ok with
  | false=>exact xf ⟨rfl,h₃⟩
  | true=>
   exact xc (xc (vt h₃ (fun x s₄ h₄=>xc (vt h₄ (fun _ s₅ h₅=>xf (xf ⟨rfl,h₅⟩)) fun _ _ h'=>h'.elim)) fun _ _ h'=>h'.elim))
end
theorem zJl {env:Env}:∀(names:List (Str × NameKind)) (cs:List (Str × Addr)),(∀y∈names,y.2=.free->∃c,env.cells.lookup y.1=some c)->∃cl:List (Str × Addr),
  (forIn names cs fun x r=>(match x,r with|(name,kind),cs=>if(kind == NameKind.free)=true then do let c <- cellOf env name;pure (ForInStep.yield ((name,c)::cs))else pure (ForInStep.yield cs)):Sem (List (Str × Addr)))=pure cl /\
  (∀x c,cl.lookup x=some c->cs.lookup x=some c\/env.cells.lookup x=some c)/\(∀x c,cs.lookup x=some c->∃c',cl.lookup x=some c')/\∀y∈names,y.2=.free->∃c,cl.lookup y.1=some c:=by
 intro names
 induction names with
 | nil=>intro cs _;exact⟨cs,rfl,fun _ _ h=>.inl h,fun x c h=>⟨c,h⟩,fun _ h=>nomatch h⟩
 | cons y r ih=>
  intro cs h
  obtain⟨n,k⟩:=y
  have hr:∀y∈r,y.2=.free->∃c,env.cells.lookup y.1=some c:=fun y hy=>h y (vd _ hy)
  by_cases hk:k=.free
  ·subst hk
   obtain⟨c,hc⟩:=h (n,.free) xO rfl
   obtain⟨cl,e,h1,h2,h3⟩:=ih ((n,c)::cs) hr
   refine⟨cl,?_,fun x d hx=>?_,fun x d hx=>?_,fun y hy hf=>?_⟩
   ·rw[uR]
    have hcell:cellOf env n=(pure c:Sem Addr):=by simp only[cellOf,hc]
    simp only[uE,xo,hcell]
    simpa using e
   ·rcases h1 x d hx with z|z
    ·rw[vh]at z
     by_cases hxn:(x == n)=true
     ·rw[hxn]at z;simp at z;subst z
      have:x=n:=by simpa using hxn
      subst this;exact .inr hc
     ·rw[uS]at hxn;rw[hxn]at z;exact .inl z
    ·exact .inr z
   ·by_cases hxn:(x == n)=true
    ·exact h2 x c (by rw[vh,hxn])
    ·rw[uS]at hxn
     exact h2 x d (by rw[vh,hxn];exact hx)
   ·rcases xn.mp hy with z|z
    ·subst z;exact h2 n c (by rw[vh];simp)
    ·exact h3 y z hf
  ·have hb:(k == NameKind.free)=false:=by simpa using hk
   obtain⟨cl,e,h1,h2,h3⟩:=ih cs hr
   refine⟨cl,?_,h1,h2,fun y hy hf=>?_⟩
   ·rw[uR]
    simp only[hb,vi,xQ]
    simpa using e
   ·rcases xn.mp hy with z|z
    ·subst z;exact absurd hf hk
    ·exact h3 y z hf
theorem zCk {scope:Scope}{env:Env}(h:∀y∈scope.names,y.2=.free->∃c,env.cells.lookup y.1=some c):∃cl:List (Str × Addr),closureFor scope env=pure cl /\
  (∀x c,cl.lookup x=some c->env.cells.lookup x=some c)/\∀y∈scope.names,y.2=.free->∃c,cl.lookup y.1=some c:=by
 obtain⟨cl,e,h1,_,h3⟩:=zJl scope.names [] h
 refine⟨cl,?_,fun x c hx=>(h1 x c hx).elim (fun z=>nomatch z) id,h3⟩
 simp only[closureFor]
 rw[e]
 rfl
theorem zCv {scope:Scope}{env:Env}{x:Str}(h:(relabel scope env).names.lookup x=some .cell\/(relabel scope env).names.lookup x=some .free):∃y∈scope.names,y.1=x/\(y.2=.free\/y.2=.cell):=by
 have key:∀(l:List (Str × NameKind)),((l.map fun(n,k)=>if(k == NameKind.free && env.scope.kind == .function && env.kindOf n == some .cell)then(n,NameKind.cell)else(n,k)).lookup x=some .cell \/
   (l.map fun(n,k)=>if(k == NameKind.free && env.scope.kind == .function && env.kindOf n == some .cell)then(n,NameKind.cell)else(n,k)).lookup x=some .free)->∃y∈l,y.1=x/\(y.2=.free\/y.2=.cell):=by
  intro l
  induction l with
  | nil=>intro h;rcases h with h|h <;> simp at h
  | cons y r ih=>
   intro h
   obtain⟨n,k⟩:=y
   by_cases hb:(k == NameKind.free && env.scope.kind == .function && env.kindOf n == some .cell)=true
   ·have kf:k=.free:=by simp at hb;exact hb.1.1
    by_cases hx:(x == n)=true
    ·have:x=n:=by simpa using hx
     exact⟨(n,k),xO,this.symm,.inl kf⟩
    ·rw[uS]at hx
     simp only[xx,hb,xo,vh,hx]at h
     obtain⟨y,hy,z⟩:=ih h
     exact⟨y,vd _ hy,z⟩
   ·rw[uS]at hb
    by_cases hx:(x == n)=true
    ·have e:x=n:=by simpa using hx
     simp only[xx,hb,vh,hx,vi,xQ]at h
     rcases h with h|h
     ·exact⟨(n,k),xO,e.symm,.inr (xP h)⟩
     ·exact⟨(n,k),xO,e.symm,.inl (xP h)⟩
    ·rw[uS]at hx
     simp only[xx,hb,vh,hx,vi,xQ]at h
     obtain⟨y,hy,z⟩:=ih h
     exact⟨y,vd _ hy,z⟩
 exact key scope.names h
noncomputable def zA4 (X:Cx) (N:List Str) (scope:Scope) (cl:List (Str × Addr)) (C:Addr) (s:Shared) (H:Hp) (fp:List Addr):Cx where
 prog:=X.prog
 w:=X.w
 K:=X.K
 mg:=X.mg
 base:=X.base
 A:=X.A
 N:=N
 s₀:=s
 H₀:=H
 env:=compEnvC scope cl C X.env
 outer:=X.stack
 stack:=X.stack
 ex:=fp
 fn:=fun x=>scope.names.lookup x == some .cell
 calm:=X.calm
 pn:=[]
 xe:=fun _ _=>False
structure CompScope (X:Cx) (own fre:List Str) (ix:List Nat) (scope:Scope):Prop where
 kind:scope.kind=.function
 cell:∀y∈scope.names,y.2=.cell->scope.names.lookup y.1=some .cell
 loc:∀y∈scope.names,y.2=.local->scope.names.lookup y.1=some .local
 fr:∀y∈scope.names,y.2=.free->X.env.kindOf y.1=some .cell\/X.env.kindOf y.1=some .free
 len:fre.length=ix.length
 at_:∀(j:Nat) (i:Nat) (x:Str),fre[j]?=some x->ix[j]?=some i->X.N[i]?=some x/\(X.env.kindOf x=some .cell\/X.env.kindOf x=some .free)
 vis:∀x∈fre,(relabel scope X.env).names.lookup x=some .cell\/(relabel scope X.env).names.lookup x=some .free
 fno:∀x∈fre,scope.names.lookup x≠some .cell
noncomputable def zNw (scope sc:Scope):Scope:=
 { scope with names:=scope.names.map fun(n,k)=>if(k == .free && sc.kind == .function && sc.names.lookup n == some .cell)then(n,.cell)else(n,k) }
noncomputable def zB0 (o:Option NameKind):Bool:=o == some .cell || o == some .free
theorem zB9 {o:Option NameKind}(h:zB0 o=true):o=some .cell\/o=some .free:=by
 simpa[zB0]using h
noncomputable def zMw (sc:Scope) (N own fre:List Str) (ix:List Nat) (scope:Scope):Bool:=
 (scope.kind == .function) && (scope.names.all fun y=>y.2 != .cell || scope.names.lookup y.1 == some .cell) && (scope.names.all fun y=>y.2 != .local || scope.names.lookup y.1 == some .local) &&
 (scope.names.all fun y=>y.2 != .free || zB0 (sc.names.lookup y.1)) && (fre.length == ix.length) && ((fre.zip ix).all fun p=>N[p.2]? == some p.1 && zB0 (sc.names.lookup p.1)) &&
 (fre.all fun x=>zB0 ((zNw scope sc).names.lookup x)) && fre.all fun x=>scope.names.lookup x != some .cell
theorem CompScope.mk' {X:Cx}{N own fre:List Str}{ix:List Nat}{scope sc:Scope}(hs:X.env.scope=sc) (hN:X.N=N) (h:zMw sc N own fre ix scope=true):CompScope X own fre ix scope:=by
 simp only[zMw,xt]at h
 obtain⟨⟨⟨⟨⟨⟨⟨h1,h2⟩,h3⟩,h4⟩,h5⟩,h6⟩,h7⟩,h8⟩:=h
 subst hs
 subst hN
 refine⟨by simpa using h1,fun y hy hl=>?_,fun y hy hl=>?_,fun y hy hl=>?_,by simpa using h5,fun j i x e1 e2=>?_,fun x hx=>?_,fun x hx=>?_⟩
 ·have:=vK.mp h2 y hy
  rw[hl]at this
  simpa using this
 ·have:=vK.mp h3 y hy
  rw[hl]at this
  simpa using this
 ·have:=vK.mp h4 y hy
  rw[hl]at this
  exact zB9 (show zB0 (X.env.scope.names.lookup y.1)=true by simpa using this)
 ·have hz:(x,i)∈fre.zip ix:=by
   refine uT.mpr ⟨j,?_⟩
   rw[List.getElem?_zip_eq_some]
   exact⟨e1,e2⟩
  have:=vK.mp h6 (x,i) hz
  simp only[xt]at this
  exact⟨by simpa using this.1,zB9 this.2⟩
 ·exact zB9 (vK.mp h7 x hx)
 ·have:=vK.mp h8 x hx
  simpa using this
section
variable {M:Model}{A:Around}{E:Value->Shared->Prop}{s:Shared}
theorem zMz {lo:Nat}:∀(names:List (Str × NameKind)) (n:Nat) (acc:List (Str × Addr)) (x:Str) (c:Addr),lo<=n->((x,NameKind.cell)∈names\/∀c,acc.lookup x=some c->lo<=c)->(cellsFrom n names acc).lookup x=some c->lo<=c
 | [],_,_,_,_,_,h,e=>h.elim (fun z=>nomatch z) fun z=>z _ e
 | (m,k)::r,n,acc,x,c,hn,h,e=>by
  unfold cellsFrom at e
  split at e
  ·refine zMz r (n+1) _ x c (by nofun) ?_ e
   by_cases hx:x=m
   ·refine .inr fun c' q=>?_
    rw[vh,show(x == m)=true by rw[hx];exact uE m]at q
    cases q;exact hn
   ·have hb:(x == m)=false:=by simpa using hx
    rcases h with h|h
    ·rcases xn.mp h with z|z
     ·exact absurd (congrArg Prod.fst z) hx
     ·exact .inl z
    ·exact .inr fun c' q=>h c' (by rw[vh,hb]at q;exact q)
  ·rename_i hk
   refine zMz r n acc x c hn ?_ e
   rcases h with h|h
   ·rcases xn.mp h with z|z
    ·cases z;exact absurd rfl hk
    ·exact .inl z
   ·exact .inr h
theorem zN0:∀(names:List (Str × NameKind)) (n:Nat) (acc:List (Str × Addr)) (x:Str),(∀y∈names,y.1=x->y.2≠.cell)->(cellsFrom n names acc).lookup x=acc.lookup x
 | [],_,_,_,_=>rfl
 | (m,k)::r,n,acc,x,h=>by
  unfold cellsFrom
  split
  ·rename_i hk
   rw[zN0 r _ _ x fun y hy=>h y (vd _ hy),vh]
   have hx:(x == m)=false:=by
    cases q:x == m with
    | false=>rfl
    | true=>exact absurd (by simpa using hk) (h (m,k) xO (by simpa using(beq_iff_eq.mp q).symm))
   rw[hx]
  ·exact zN0 r n acc x fun y hy=>h y (vd _ hy)
theorem zN1:∀(names:List (Str × NameKind)) (n:Nat) (acc:List (Str × Addr)),(∀x c,acc.lookup x=some c->c<n)->(∀x y c,acc.lookup x=some c->acc.lookup y=some c->x=y)->
  ∀x y c,(cellsFrom n names acc).lookup x=some c->(cellsFrom n names acc).lookup y=some c->x=y
 | [],_,_,_,h=>h
 | (m,k)::r,n,acc,hl,h=>by
  unfold cellsFrom
  split
  ·refine zN1 r (n+1) _ (fun x c e=>?_) fun x y c e1 e2=>?_
   ·rw[vh]at e
    cases q:x == m with
    | true=>rw[q]at e;cases e;exact Nat.lt_succ_self _
    | false=>rw[q]at e;exact uq (hl x c e)
   ·rw[vh]at e1 e2
    cases q:x == m with
    | true=>
     cases q':y == m with
     | true=>rw[beq_iff_eq.mp q,beq_iff_eq.mp q']
     | false=>rw[q]at e1;rw[q']at e2;cases e1;exact absurd (hl y _ e2) (vn _)
    | false=>
     cases q':y == m with
     | true=>rw[q]at e1;rw[q']at e2;cases e2;exact absurd (hl x _ e1) (vn _)
     | false=>rw[q]at e1;rw[q']at e2;exact h x y c e1 e2
  ·exact zN1 r n acc hl h
theorem zFl:∀(names:List (Str × NameKind)) (n:Nat) (acc:List (Str × Addr)) (x:Str),((x,NameKind.cell)∈names\/∃c,acc.lookup x=some c)->∃c,(cellsFrom n names acc).lookup x=some c
 | [],_,_,_,h=>h.elim (fun z=>nomatch z) id
 | (m,k)::r,n,acc,x,h=>by
  unfold cellsFrom
  split
  ·refine zFl r (n+1) _ x ?_
   cases q:x == m with
   | true=>exact .inr ⟨n,by rw[vh,q]⟩
   | false=>
    rcases h with h|⟨c,h⟩
    ·rcases xn.mp h with z|z
     ·rw[show x=m from congrArg Prod.fst z,uE]at q;cases q
     ·exact .inl z
    ·exact .inr ⟨c,by rw[vh,q];exact h⟩
  ·rename_i hk
   refine zFl r n acc x ?_
   rcases h with h|h
   ·rcases xn.mp h with z|z
    ·cases z;exact absurd rfl hk
    ·exact .inl z
   ·exact .inr h
theorem zHf:∀(names:List (Str × NameKind)) (h:Heap) (acc:List (Str × Addr)) (lo:Nat),lo<=h.objs.size->(∀x c,acc.lookup x=some c->lo<=c->h.IsCell c none)->∀x c,(cellsFrom h.objs.size names acc).lookup x=some c->lo<=c->(pushCells h names).IsCell c none
 | [],_,_,_,_,q=>q
 | (m,k)::r,h,acc,lo,hl,q=>by
  unfold cellsFrom pushCells
  split
  ·have:=zHf r (h.push { cls:=.type "cell",data:=.cell none }) ((m,h.objs.size)::acc) lo (by rw[vy];lia) fun x c e hc=>by
    rw[vh]at e
    cases z:x == m with
    | true=>rw[z]at e;cases e;exact⟨_,xD _ rfl,rfl⟩
    | false=>rw[z]at e;exact(q x c e hc).keeps fun b o e=>xm _ e
   rwa[vy]at this
  ·exact zHf r h acc lo hl q
theorem zLe {scope:Scope}{globals:Addr}{closure:List (Str × Addr)}{qual:Str}{around:Env}{Q:Env->Shared->Prop}
  (hQ:Q (newEnv scope s.heap.objs.size globals (cellsFrom (s.heap.objs.size+1) scope.names closure) qual none .none (some around) builtinsNs) { s with heap:=pushCells (s.heap.push { cls:=.type "dict",data:=.dict #[] }) scope.names }):
  wpAny M A (newFunctionEnv scope globals closure [] qual none .none (some around)) Q E s:=by
 simp only[newFunctionEnv,Option.isSome_some,xo]
 refine xc (wpAny_alloc ?_)
 refine xc (wpAny_layCells _ (fun name kind cells=>by cases hkc:kind == NameKind.cell <;> simp[hkc]) _ _ _ _ ?_)
 rw[show({ s with heap:=s.heap.push { cls:=.type "dict",data:=.dict #[] } }:Shared).heap.objs.size=s.heap.objs.size+1 from vy ..]
 simp only[List.forIn_nil]
 exact xc (xf (xf hQ))
end
structure ClOk (X:Cx) (scope:Scope) (C:Addr) (cl:List (Str × Addr)):Prop where
 inj:∀x y c,cl.lookup x=some c->cl.lookup y=some c->x=y
 own:∀x c,scope.names.lookup x=some .cell->cl.lookup x=some c->C<c
 old:∀x c,scope.names.lookup x≠some .cell->cl.lookup x=some c->X.env.cells.lookup x=some c
 has:∀y∈scope.names,(y.2=.free\/y.2=.cell)->∃c,cl.lookup y.1=some c
theorem ClOk.or {X:Cx}{scope:Scope}{C:Addr}{cl:List (Str × Addr)}(h:ClOk X scope C cl) {x:Str}{c:Addr}(e:cl.lookup x=some c):X.env.cells.lookup x=some c\/C<c:=by
 by_cases q:scope.names.lookup x=some .cell
 ·exact .inr (h.own x c q e)
 ·exact .inl (h.old x c q e)
noncomputable def zC4 (own:List Str) (ix:List Nat) (σ:St):St:=own.map (fun _=>none)++ix.map fun i=>(σ[i]?).join
section
variable {X:Cx}{pins:List (Addr × Obj)}{σ:St}{H:Hp}{s:Shared}{own fre:List Str}{ix:List Nat}{scope:Scope}{cl:List (Str × Addr)}{fp:List Addr}{C:Addr}
theorem Inv.stkNo (I:Inv X pins σ H s) {b:Addr}(h:FpOk X pins H b):b ∉ frs X.stack:=fun hb=>
 (xn.mp (I.stkSub b hb)).elim h.2.1 h.2.2.1
theorem zTy (I:Inv X pins σ H s) (hf:∀b∈fp,FpOk X pins H b) (hlt:∀b∈fp,b<s.heap.objs.size) (S:CompScope X own fre ix scope) (hcl:ClOk X scope C cl)
  (hC:s.heap.objs.size<=C):(zA4 X (own++fre) scope cl C s H fp).Ok where
 mod:=I.ok.mod
 kind:=S.kind
 glob:=I.ok.glob
 blt:=I.ok.blt
 above:=hC
 inj:=hcl.inj
 has:=fun x hx=>by
  obtain⟨y,hy,e,k⟩:=zCv hx
  subst e
  exact hcl.has y hy k
 cab:=fun x c h e=>xN (Nat.lt_of_le_of_lt hC (hcl.own x c (by simpa[zA4]using h) e))
 hd:=I.ok.hd
 frames:=I.ok.frames
 gds:=I.ok.gds
 stk:=.inl rfl
 exf:=fun b hb=>⟨xr (xE (hlt b hb) hC),fun x c e=>(hcl.or e).elim (fun e=>(hf b hb).2.2.2.2.1 x c e) fun z=>xw (xr (vS (xE (hlt b hb) hC) z))⟩
 bs:=I.bs
 bsz:=xp I.ok.bsz I.sz
 noex:=fun b o e hb=>by
  rcases(hf b hb).2.2.2.1 with z|z
  ·exact I.ok.noex b o e z
  ·exact absurd (xE (xl e) (xp I.ok.bsz z)) (vn _)
 exfs:=fun b hb=>I.stkNo (hf b hb)
 funs:=I.stack
 frf:=I.stkFree
theorem zJj {h₁:Heap}{t':Nat}{m:Str->Option Value}(I:Inv X pins σ H s) (hf:∀b∈fp,FpOk X pins H b) (hlt:∀b∈fp,b<s.heap.objs.size) (S:CompScope X own fre ix scope) (hcl:ClOk X scope C cl) (hnew:∀x c,cl.lookup x=some c->C<c->h₁.IsCell c none)
  (hC:s.heap.objs.size<=C) (old:∀b o,s.heap.get? b=some o->h₁.get? b=some o) (hn:h₁.Ns C m):
  Inv (zA4 X (own++fre) scope cl C s H fp) [] (zC4 own ix σ) H { s with heap:=h₁,toks:=t' } where
 ok:=zTy I hf hlt S hcl hC
 os:=rfl
 bare:=I.bare
 base:=Un.kept old
 loc:=by
  refine⟨m,hn,fun i x v e1 e2 e3=>?_⟩
  obtain⟨m0,hn0,hl⟩:=I.loc
  have hi:own.length<=i:=by
   rcases vj i own.length with z|z
   ·rw[zC4,vf (by simpa using z),vx]at e2
    cases q:own[i]? <;> rw[q]at e2 <;> simp at e2
   ·exact z
  have e1':(own++fre)[i]?=some x:=e1
  rw[vw hi]at e1'
  rw[zC4,vw (by simpa using hi),vx,xF]at e2
  cases q:ix[i-own.length]? with
  | none=>rw[q]at e2;simp at e2
  | some j=>
   rw[q]at e2
   obtain⟨hN,hk⟩:=S.at_ _ _ _ e1' q
   have e2':(σ[j]?).join=some v:=by simpa using e2
   have e4:σ[j]?=some (some v):=by
    cases z:σ[j]? with
    | none=>rw[z]at e2';cases e2'
    | some o=>rw[z]at e2';exact congrArg some e2'
   obtain⟨u,r,lk⟩:=hl j x v hN e4 (hk.elim (fun z=>.inr (.inl z)) fun z=>.inr (.inr z))
   refine⟨u,r,.inr ?_⟩
   rcases lk with⟨k,_⟩|⟨k,c,ec,hc⟩
   ·rcases hk with z|z <;> · rw[k]at z;cases z
   ·have fin:((zA4 X (own++fre) scope cl C s H fp).env.kindOf x=some .cell\/(zA4 X (own++fre) scope cl C s H fp).env.kindOf x=some .free):=by
     exact S.vis x (yb e1')
    refine⟨fin,?_⟩
    obtain⟨y,hy,e,kf⟩:=zCv fin
    subst e
    obtain⟨c',hc'⟩:=hcl.has y hy kf
    have:=(hcl.old _ _ (S.fno _ (yb e1')) hc').symm.trans ec
    cases this
    exact⟨c,hc',by obtain⟨o,ho,hd⟩:=hc;exact⟨o,old _ _ ho,hd⟩⟩
 cell:=fun x c e=>by
  rcases hcl.or e with q|q
  ·obtain⟨v,o,ho,hd⟩:=I.cell x c q
   exact⟨v,o,old _ _ ho,hd⟩
  ·exact⟨none,hnew x c e q⟩
 free:=I.hok.fresh hC
 freeC:=fun x c e=>(hcl.or e).elim (fun q=>I.freeC x c q) fun q=>I.hok.fresh (xN (Nat.lt_of_le_of_lt hC q))
 pin:=fun p hp=>nomatch hp
 hok:=I.hok.kept old
 len:=by simp[zC4,zA4,S.len]
end
noncomputable def PIfs (X:Cx) (ifs:List Expr) (t:TT):Prop:=
 ∀(pins:List (Addr × Obj)) (s:Shared) (σ:St) (H:Hp) (Q:Bool->Hp->Prop),Inv X pins σ H s->t σ H Q->
  wpAny (model X.prog X.w) X.A (forIn ifs true fun c r=>if r=true then do let ok <- isTrue c X.env (eval c X.env);pure (ForInStep.yield ok)else pure (ForInStep.yield r)) (TP X pins σ Q) X.xe s
noncomputable def tYes:TT:=fun _ H Q=>Q true H
theorem zOe {X:Cx}:PIfs X [] tYes:=fun pins s σ H Q I h=>xf ⟨H,I,h⟩
theorem zOd {X:Cx}{c:Expr}{t:TT}(hc:PT X c t):PIfs X [c] t:=by
 intro pins s σ H Q I h
 rw[uR]
 simp only[xo]
 refine xc (xc (thn (hc pins s σ H Q I h) fun b s1 q=>xf ?_))
 simp only[List.forIn_nil]
 exact xf q
noncomputable def zPw (J:It) (g:TG) (tt:TT) (te:TE) (σc:St) (H1:Hp) (Qd:List V->Hp->Prop):Prop:=
 ∃W:Nat->Nat->List V->St->Hp->Prop,(∃m,W 0 m [] σc H1)/\∀i m ys σ H,W i m ys σ H->
  (J.stop i H/\Qd ys H)\/(J.go i H/\ys.length<sizeLine/\∃N:List V->St->Hp->Prop,(∀zs σ' H',N zs σ' H'->∃m',m'<m/\W (i+1) m' zs σ' H')/\∀x H',J.yld i H x H'->g x σ H' fun σ2 H2=>tt σ2 H2 fun c H3=>
   if c=true then te σ2 H3 fun y H4=>N (ys++[y]) σ2 H4 else N ys σ2 H3)
theorem HOk.adopt {P:Program}{w:World}{H:Hp}{h:Heap}{D:Addr}{o:HO}(x:HOk P w H h) (n:H D=none) (new:ObjOk P w (upd H D o) h D o):HOk P w (upd H D o) h:=fun b u e=>by
 by_cases hb:b=D
 ·subst hb
  rw[zAd]at e
  cases e
  exact new
 ·rw[zA7 hb]at e
  refine(x b u e).stay (fun c v _ q=>q) (fun c q=>?_) fun c xs q=>?_
  ·rw[zA7 (zA3 q n)];exact q
  ·rw[zA7 (zA3 q n)];exact q
theorem Un.adopt {fs ex:List Addr}{H H':Hp}{h h':Heap}{D:Addr}{o:HO}(u:Un fs ex H H' h h') (hD:h.objs.size<=D) (n:H' D=none):Un fs ex H (upd H' D o) h h' where
 keep:=u.keep
 slot:=u.slot
 free:=fun b ob e n' hx=>by rw[zA7 (xr (xE (xl e) hD))];exact u.free b ob e n' hx
 there:=u.there
 tups:=fun b xs e=>by have:=u.tups b xs e;rw[zA7 (zA3 this n)];exact this
 frzs:=fun b ob xs e=>by have:=u.frzs b ob xs e;rw[zA7 (zA3 this n)];exact this
 tbls:=fun b ps e=>by obtain⟨m,z⟩:=u.tbls b ps e;exact⟨m,by rw[zA7 (zA3 z n)];exact z⟩
section
variable {X:Cx}{pins:List (Addr × Obj)}{σ:St}{H2:Hp}{s2:Shared}{own fre:List Str}{ix:List Nat}{scope:Scope}{cl:List (Str × Addr)}{fp:List Addr}{C:Addr}
theorem zEj {tg elt iter:Expr}{ifs:List Expr}{pos:Pos}{J:It}{it:Addr}{tn:Nat->Heap->Prop}{g:TG}{tt:TT}{te:TE}{Qd:List V->Hp->Prop}{RR:Value->Addr->Result->Shared->Prop}{E:Value->Shared->Prop}{cl0:List (Str × Addr)}
  (I2:Inv X pins σ H2 s2) (T:Turn X.prog X.w X.K tg J fp it tn) (st2:tn 0 s2.heap) (f2:∀b∈fp,FpOk X pins H2 b) (hc:X.calm=true) (S:CompScope X own fre ix scope)
  (hcl0:∀x c,cl0.lookup x=some c->X.env.cells.lookup x=some c) (hcf0:∀y∈scope.names,y.2=.free->∃c,cl0.lookup y.1=some c)
  (hg:∀cl C,PG (zA4 X (own++fre) scope cl C s2 H2 fp) tg g) (hi:∀cl C,PIfs (zA4 X (own++fre) scope cl C s2 H2 fp) ifs tt) (he:∀cl C,PE (zA4 X (own++fre) scope cl C s2 H2 fp) elt te)
  (q:zPw J g tt te (zC4 own ix σ) H2 Qd)
  (hRR:∀D C s' m' ys H',Inv X pins σ (upd H' D (.lst ys)) s'->s'.heap.Ns C m'->FpOk X pins (upd H' D (.lst ys)) C->H' D=none->Qd ys H'->RR (.ref D) C (.ok .next) s'):
  wpAny (model X.prog X.w) X.A (newList []) (fun acc s₃=>wpAny (model X.prog X.w) X.A (newFunctionEnv scope X.env.globals cl0 [] X.env.qual none .none (some X.env)) (fun cenv s₄=>
   codeAny (model X.prog X.w) X.A (.compStart (.ListComp elt [⟨tg,iter,ifs,0⟩] scope pos) 0 (.ref it) acc { cenv with scope:=relabel scope X.env }) (RR acc cenv.locals) s₄) E s₃) E s2:=by
 obtain⟨W,⟨m0,w0⟩,turn⟩:=q
 refine ve (zLe ?_)
 dsimp only
 generalize hHH:s2.heap.push { cls:=.type "list",dict:=none,data:=.seq ([]:List Value).toArray }=HH
 have hC:HH.objs.size=s2.heap.objs.size+1:=by rw[<- hHH,vy]
 have hns₁:(pushCells (HH.push { cls:=.type "dict",data:=.dict #[] }) scope.names).Ns HH.objs.size fun _=>none:=(Heap.Ns.new HH (.type "dict")).keeps (pushCells_keeps _ _)
 have hkp:∀b o,HH.get? b=some o->(pushCells (HH.push { cls:=.type "dict",data:=.dict #[] }) scope.names).get? b=some o:=fun b o e=>pushCells_keeps _ _ b o (xm _ e)
 have hltc:∀x c,cl0.lookup x=some c->c<HH.objs.size+1:=fun x c e=>by
  obtain⟨v,o,ho,_⟩:=I2.cell x c (hcl0 x c e)
  rw[hC]
  exact uq (uq (xl ho))
 have hnew:∀x c,(cellsFrom (HH.objs.size+1) scope.names cl0).lookup x=some c->HH.objs.size<c->(pushCells (HH.push { cls:=.type "dict",data:=.dict #[] }) scope.names).IsCell c none:=by
  have:=zHf scope.names (HH.push { cls:=.type "dict",data:=.dict #[] }) cl0 (HH.objs.size+1) (by rw[vy];exact xi _) fun x c e hc=>absurd (xE (hltc x c e) hc) (vn _)
  rw[vy]at this
  exact fun x c e h=>this x c e h
 have hcl:ClOk X scope HH.objs.size (cellsFrom (HH.objs.size+1) scope.names cl0):={
  inj:=zN1 _ _ _ hltc fun x y c e1 e2=>I2.ok.inj x y c (hcl0 x c e1) (hcl0 y c e2)
  own:=fun x c h e=>zMz _ _ _ x c (xi _) (.inl (uC h)) e
  old:=fun x c h e=>by
   rw[zN0 _ _ _ x fun y hy ex ec=>h (by rw[<- ex];exact S.cell y hy ec)]at e
   exact hcl0 x c e
  has:=fun y hy hk=>by
   obtain⟨n,k⟩:=y
   rcases hk with hk|hk
   ·exact zFl _ _ _ _ (.inr (hcf0 _ hy hk))
   ·dsimp only at hk
    subst hk
    exact zFl _ _ _ _ (.inl hy) }
 generalize cellsFrom (HH.objs.size+1) scope.names cl0=cl at hnew hcl ⊢
 generalize pushCells (HH.push { cls:=.type "dict",data:=.dict #[] }) scope.names=h₁ at hns₁ hkp hnew ⊢
 generalize hDe:s2.heap.objs.size=D at *
 generalize hCe:HH.objs.size=C at *
 have hDC:D≠C:=by nofun
 have hDle:s2.heap.objs.size<=D:=by nofun
 have hCle:s2.heap.objs.size<=C:=by nofun
 have below:∀b o,s2.heap.get? b=some o->b≠C/\b≠D:=fun b o e=>⟨xr (xE (xl e) hCle),xr (xE (xl e) hDle)⟩
 have old:∀b o,s2.heap.get? b=some o->h₁.get? b=some o:=fun b o e=>hkp b o (hHH ▸ xm _ e)
 have hacc:=hkp _ _ (hHH ▸ hDe ▸ xD _ rfl)
 have fpo:=T.obj _ _ st2
 have hlt:∀b∈fp,b<s2.heap.objs.size:=fun b hb=>by obtain⟨o,e,_⟩:=fpo b hb;exact xl e
 have hDf:D ∉ fp:=fun hm=>absurd (xE (hlt D hm) hDle) (vn _)
 have hcD:∀x c,cl.lookup x=some c->c≠D:=fun x c e z=>by
  rcases hcl.or e with q|q
  ·obtain⟨v,o,ho,_⟩:=I2.cell x c q
   exact(below c o ho).2 z
  ·exact absurd (xE q (by rw[z,hC];exact Nat.le_succ _)) (vn _)
 let Xc:=zA4 X (own++fre) scope cl C s2 H2 fp
 have hnoS:∀b,s2.heap.objs.size<=b->b ∉ frs X.stack:=fun b hb z=>by
  rcases xn.mp (I2.stkSub b z)with z|z
  ·exact absurd (xE I2.lt hb) (by rw[z];exact vn _)
  ·exact I2.nofs hb z
 have loop:∀t',codeAny (model X.prog X.w) X.A (.compLoop (.ListComp elt [⟨tg,iter,ifs,0⟩] scope pos) 0 (.ref it) (.ref D) (compEnvC scope cl C X.env)) (RR (.ref D) C) { s2 with heap:=h₁,toks:=t' }:=by
  intro t'
  have I4:Inv Xc [] (zC4 own ix σ) H2 { s2 with heap:=h₁,toks:=t' }:=zJj I2 f2 hlt S hcl hnew hCle old hns₁
  refine zGa (fun n s'=>∃i ys σ' H' its k,Inv Xc [] σ' H' s'/\tn i s'.heap/\(∀b∈fp,H' b=none)/\H' D=none/\s'.heap.get? D=some ({ cls:=.type "list",data:=.seq (List.toArray its) k }:Obj)/\Vals ys its/\ys.length<=sizeLine/\W i n ys σ' H')
   ?_ m0 ⟨0,[],_,H2,[],_,I4,T.keep _ _ _ st2 (fun b _ o e=>old b o e),fun b hb=>(f2 b hb).1,I2.hok.fresh hDle,hacc,.nil,vg _,w0⟩
  rintro n s3 ⟨i,ys,σ3,H3,its,k,I3,st3,fr3,hD3,ho3,hv3,hz3,w3⟩
  have I3p:Inv Xc [(D,{ cls:=.type "list",data:=.seq (List.toArray its) k })] σ3 H3 s3:=I3.pins_of fun p hp=>by
   have e:p=(D,({ cls:=.type "list",data:=.seq (List.toArray its) k }:Obj)):=by simpa using hp
   subst e
   exact⟨ho3,hD3,hDC,hnoS D hDle,fun v z=>by cases z⟩
  have stat:∀{H':Hp},(∀b∈fp,H' b=none)->∀b∈fp,FpOk Xc [(D,({ cls:=.type "list",data:=.seq (List.toArray its) k }:Obj))] H' b:=fun hn b hb=>
   ⟨hn b hb,xr (xE (hlt b hb) hCle),I2.stkNo (f2 b hb),.inl hb,fun x c e=>(hcl.or e).elim (fun e=>(f2 b hb).2.2.2.2.1 x c e) fun z=>xw (xr (vS (xE (hlt b hb) hCle) z)),fun p hp z=>by
    have e:p=(D,({ cls:=.type "list",data:=.seq (List.toArray its) k }:Obj)):=by simpa[Xc,zA4]using hp
    rw[e]at z;exact hDf (by rw[show D=b from z];exact hb)⟩
  rcases turn i n ys σ3 H3 w3 with⟨stop,qn⟩|⟨go,hys,N,hN,step⟩
  ·refine thn (T.done Xc rfl rfl rfl hc i _ s3 σ3 H3 _ I3p (stat fr3) st3 stop) fun r s4 hq1=>?_
   obtain⟨hr,I4⟩:=hq1
   subst hr
   have ho4:=(I4.pin (D,_) (xI _ xO)).1
   obtain⟨m',hn',_⟩:=I4.loc
   have un:Un (frs X.stack) fp H2 (upd H3 D (.lst ys)) s2.heap s4.heap:=Un.adopt (I4.base) hDle hD3
   have hok:HOk X.prog X.w (upd H3 D (.lst ys)) s4.heap:=HOk.adopt (I4.hok) hD3 ⟨hz3,its,_,hv3,ho4⟩
   have IX:=I2.call' I4.os un hok I4.bare fun b hb=>⟨(f2 b hb).2.2.2.1,(f2 b hb).2.1,(f2 b hb).2.2.2.2.1,(f2 b hb).2.2.2.2.2⟩
   exact hRR D C s4 m' ys H3 IX hn' (I2.fpOk hCle (by rw[zA7 (xw hDC)];exact I4.free)) hD3 qn
  ·refine thn (T.item Xc rfl rfl rfl hc i _ s3 σ3 H3 _ I3p (stat fr3) st3 go) fun r s4 hq1=>?_
   obtain⟨u,hr,h4⟩:=hq1
   subst hr
   refine thn h4 fun _ s5 hq1=>?_
   obtain⟨x,H5,I5,r5,y5,st5,fr5⟩:=hq1
   have I5':=I5.pinned (stat fr5) (T.obj _ _ st5)
   refine thn (hg cl C _ s5 σ3 H5 x u _ I5' r5 (step x H5 y5)) fun _ s6 hq1=>?_
   obtain⟨σ6,H6,I6,q6⟩:=hq1
   refine thn (hi cl C _ s6 σ6 H6 _ I6 q6) fun b s7 hq1=>?_
   obtain⟨H7,I7,q7⟩:=hq1
   have keepT:∀{σ7:St}{H7:Hp}{s7:Shared}{h':Heap},Inv Xc ([(D,({ cls:=.type "list",data:=.seq (List.toArray its) k }:Obj))]++zG1 fp s5.heap) σ7 H7 s7->(∀b o,b≠D->s7.heap.get? b=some o->h'.get? b=some o)->tn (i+1) h'/\∀b∈fp,H7 b=none:=fun {σ7 H7 s7 h'} I7 hk=>by
    refine⟨T.keep _ _ _ st5 fun b hb o e=>hk b o (fun z=>hDf (z ▸ hb)) (I7.pin (b,o) (xI _ (xI _ (zBc hb e)))).1,fun b hb=>?_⟩
    obtain⟨o,e,d⟩:=T.obj _ _ st5 b hb
    exact(I7.pin (b,o) (xI _ (xI _ (zBc hb e)))).2.1
   cases b with
   | false=>
    obtain⟨m',hm,w7⟩:=hN _ _ _ q7
    obtain⟨t7,f7⟩:=keepT I7 fun _ _ _ e=>e
    have pD:=I7.pin (D,_) (xI _ (vC _ xO))
    exact⟨m',hm,i+1,ys,σ6,H7,its,k,I7.pins_of (fun p hp=>nomatch hp),t7,f7,pD.2.1,pD.1,hv3,hz3,w7⟩
   | true=>
    refine thn (he cl C _ s7 σ6 H7 _ I7 q7) fun y s8 hq1=>?_
    obtain⟨v,H8,I8,r8,n8⟩:=hq1
    obtain⟨m',hm,w8⟩:=hN _ _ _ n8
    have pD:=I8.pin (D,_) (xI _ (vC _ xO))
    have hsz:its.toArray.size<=sizeLine:=by rw[xq,<- hv3.length];exact hz3
    refine wpAny_list_append_plain (show s8.heap.PlainList D its.toArray from⟨_,pD.1⟩) fun h₅ hl₅ hs₅=>?_
    obtain⟨t8,f8⟩:=keepT I8 fun b o hb e=>hs₅.extBut b o hb e
    obtain⟨k',ho5⟩:=hl₅
    have I9:=(I8.pins_of (pins':=[]) (fun p hp=>nomatch hp)).turned (t':=s8.toks) (fun b o hb e=>hs₅.extBut b o hb e) pD.2.1 hDC (.inr hDle) hcD fun p hp=>nomatch hp
    refine⟨m',hm,i+1,ys++[v],σ6,H8,its++[y],k',I9,t8,f8,pD.2.1,?_,hv3.append (.cons r8 .nil),(by rw[xG,List.length_singleton];exact hys),w8⟩
    show h₅.get? D=_
    rw[ho5];simp
 exact codeAny_compStart_list (loop _) (T.self _ 0 _ _ _ (T.keep _ _ _ st2 (fun b _ o e=>old b o e)) (loop _))
end
noncomputable def zGx (own:List Str) (ix:List Nat) (wi:TI) (g:TG) (tt:TT) (te:TE):TE:=fun σ H Q=>wi σ H fun J H1=>
 zPw J g tt te (zC4 own ix σ) H1 fun ys H2=>∀D,H2 D=none->Q (.ref D) (upd H2 D (.lst ys))
section
variable {X:Cx}{own fre:List Str}{ix:List Nat}{scope:Scope}
theorem zOl {tg elt iter:Expr}{ifs:List Expr}{pos:Pos}{wi:TI}{g:TG}{tt:TT}{te:TE}(hc:X.calm=true) (S:CompScope X own fre ix scope) (hi:PI X tg iter wi)
  (hg:∀cl C s H fp,PG (zA4 X (own++fre) scope cl C s H fp) tg g) (ht:∀cl C s H fp,PIfs (zA4 X (own++fre) scope cl C s H fp) ifs tt) (he:∀cl C s H fp,PE (zA4 X (own++fre) scope cl C s H fp) elt te)
  (hs:∀x,foldedSetIterable iter X.env x=pure x:=by intro _;rfl):PE X (.ListComp elt [⟨tg,iter,ifs,0⟩] scope pos) (zGx own ix wi g tt te):=by
 intro pins s σ H Q I h
 obtain⟨cl,ecl,hcl,hcf⟩:=zCk fun y hy hf=>I.ok.has y.1 (S.fr y hy hf)
 rw[eval_ListComp]
 refine wpAny_comprehension_free rfl hs ecl S.kind S.loc (thn (hi pins s σ H _ I h) fun v s1 h1=>thn h1 fun itv s2 h2=>?_)
 obtain⟨it,fp,tn,J,H2,e,I2,T,st2,f2,q⟩:=h2
 subst e
 refine zEj I2 T st2 f2 hc S hcl hcf (fun cl C=>hg _ _ _ _ _) (fun cl C=>ht _ _ _ _ _) (fun cl C=>he _ _ _ _ _) q ?_
 intro D C s' m' ys H' IX hn fC hD qd
 refine⟨m',hn,fun h' hs'=>?_⟩
 exact⟨.ref D,_,IX.turned (fun b o hb e=>hs'.extBut b o hb e) fC.1 fC.2.1 fC.2.2.2.1 fC.2.2.2.2.1 fC.2.2.2.2.2,rfl,qd D hD⟩
theorem zRm {i:Nat}{x:Str}{pos':Pos}{tg elt iter:Expr}{ifs:List Expr}{pos cpos:Pos}{wi:TI}{g:TG}{tt:TT}{te:TE}(hN:X.N.Nodup) (hix:X.N[i]?=some x) (hx:Loc X.env.scope x)
  (hc:X.calm=true) (S:CompScope X own fre ix scope) (hi:PI X tg iter wi)
  (hg:∀cl C s H fp,PG (zA4 X (own++fre) scope cl C s H fp) tg g) (ht:∀cl C s H fp,PIfs (zA4 X (own++fre) scope cl C s H fp) ifs tt) (he:∀cl C s H fp,PE (zA4 X (own++fre) scope cl C s H fp) elt te)
  (hsw:swapsWith (.ListComp elt [⟨tg,iter,ifs,0⟩] scope cpos) (some (.Name x pos')) pos.line X.env=pure true:=by rfl)
  (hs:∀x,foldedSetIterable iter X.env x=pure x:=by intro _;rfl) (hf:X.fn x=true\/X.env.scope.names.lookup x=some .local:=by first|exact .inl rfl|exact .inr rfl|assumption):
  PS X (.Assign [.Name x pos'] (.ListComp elt [⟨tg,iter,ifs,0⟩] scope cpos) pos) (tAsg (zGx own ix wi g tt te) (gName i)):=by
 intro pins s σ H D I h
 obtain⟨cl,ecl,hcl,hcf⟩:=zCk fun y hy hf=>I.ok.has y.1 (S.fr y hy hf)
 rw[exec_Assign_Name_used _ _ _ _ hsw]
 refine xc (wpAny_standAt (xc ?_))
 show wpAny _ X.A (do let _ <- comprehension (.ListComp elt [⟨tg,iter,ifs,0⟩] scope cpos) scope X.env _ (newList []) false (eval iter X.env) (some (assign (.Name x pos') X.env))) _ _ s
 refine xc (vt (wpAny_comprehension_free rfl hs ecl S.kind S.loc
  (thn (hi pins s σ H _ I h) fun v s1 h1=>thn h1 fun itv s2 h2=>?_)) (fun _ s' hq=>xf (xf hq)) fun _ _ e=>e)
 obtain⟨it,fp,tn,J,H2,e,I2,T,st2,f2,q⟩:=h2
 subst e
 refine zEj I2 T st2 f2 hc S hcl hcf (fun cl C=>hg _ _ _ _ _) (fun cl C=>ht _ _ _ _ _) (fun cl C=>he _ _ _ _ _) q ?_
 intro D' C s' m' ys H' IX hn fC hD qd
 show wpAny _ X.A (assign (.Name x pos') X.env (.ref D')) _ _ _
 refine wpAny_assign_Name (zFw (v:=.ref D') IX hN hix hx rfl (fun s'' I'' hsb=>?_) hf)
 obtain⟨a,hsb,ha⟩:=hsb
 have hCa:C≠a:=by
  rcases ha with z|z
  ·rw[z];exact fC.2.1
  ·exact xw (fC.2.2.2.2.1 x a z)
 refine⟨m',hn.sameBut hsb hCa,fun h' hs'=>?_⟩
 exact⟨_,_,I''.turned (fun b o hb e=>hs'.extBut b o hb e) fC.1 fC.2.1 fC.2.2.2.1 fC.2.2.2.2.1 fC.2.2.2.2.2,qd D' hD⟩
end
end L2
namespace LX
open PySem
open Sem (wp)
theorem zOu:typeLookup (.type "list_reverseiterator") "__len__"=pure none:=by rw[typeLookup_type,yd];kernel_rfl
theorem zT0:typeLookup (.type "list_reverseiterator") "__length_hint__"=pure (some (.builtin "list_reverseiterator.__length_hint__")):=by rw[typeLookup_type,yd];kernel_rfl
section
variable {prog:Program}{w:World}{A:Around}{E:Value->Shared->Prop}{s:Shared}
theorem zJe {R:Result->Shared->Prop}{I l:Addr}{items:Array Value}(hh:A.handled=none) (hne:l≠I) (hit:s.heap.IsRevIter I l ((items.size:Int)-1)) (hl:s.heap.IsList l items)
  (S:Addr) (res:Value) (c₀:Nat) (hSI:S≠I) (hSl:S≠l) (hS:s.heap.get? S=some { cls:=.type "list",data:=.seq #[] c₀ }) (hn:items.size<=sizeLine)
  (hR:∀h' tk acc' c',(∀b o,b≠S->b≠I->s.heap.get? b=some o->h'.get? b=some o)->h'.get? S=some { cls:=.type "list",dict:=none,data:=.seq acc' c',slots:=#[] }->
   ItemsOf (fun i v=>items[items.size-1-i]?=some v) acc' items.size->R (.ok (.ret res)) { s with heap:=h',toks:=tk }):
  wpAny (model prog w) A.in1 (Builtin.List.listExtendWith (.ref S) (.ref I) res)
   (fun fin s'=>match fin with|.done f=>R (.ok f) s'|.again c'=>c'.quiet=true/\codeAny (model prog w) A c' R s') (fun e s'=>R (.error e) s') s:=by
 have W:=(Walks.listRev (prog:=prog) (w:=w) (A:=A.in1) hh I l hne items).toS
 have st:0<=items.size/\s.heap.IsRevIter I l ((items.size:Int)-1-((0:Nat):Int))/\s.heap.IsList l items:=⟨vg _,by simpa using hit,hl⟩
 have hT:=hit.typeIs
 have hSf:S ∉ [I,l]:=fun hm=>by
  rcases xn.mp hm with z|z
  ·exact hSI z
  ·exact hSl (vk.mp z)
 have h1:Builtin.List.listSameRef (.ref S) (.ref I)=false:=by simp[Builtin.List.listSameRef,hSI]
 unfold Builtin.List.listExtendWith
 refine xc (uk hT ?_)
 rw[xh (by rw[h1];decide)]
 refine xc (wpAny_pyIter_revIter hit ?_)
 refine xc (xC ?_)
 unfold Builtin.List.listLengthHint
 refine xc (ub hT zOu ?_)
 show wpAny _ A.in1 (specialOf (Value.ref I) (Str.ofString "__length_hint__") >>= _) _ _ _
 refine xc (ub hT zT0 ?_)
 (generalize hid:("list_reverseiterator.__length_hint__":String)=id0;(fail_if_success (clear hid id0));wp_delta;rw[show splitId id0=some ("list_reverseiterator","__length_hint__")from by subst hid;decide +kernel];subst hid)
 refine xc (vT (b:=true) hT (by rw[isSubtype_type];kernel_rfl) ?_)
 refine xf ?_
 rw[xh (by decide)]
 refine xf ⟨plainId_quiet F.plain_extend_loop _,codeAny_extend_loopS W hn _ hSf _ items.size 0 _ _ _ rfl (vg _) st hS (ItemsOf.nil _) fun s' acc' c' hm hS' hacc=>?_⟩
 rw[Moved.eq_with hm]
 refine hR s'.heap s'.toks acc' c' (fun b o hb hb' e=>hm.heap b o (fun hmem=>?_) e) hS' hacc
 rcases xn.mp hmem with z|z
 ·exact hb z
 ·exact hb' (vk.mp z)
theorem zP3 {R:Result->Shared->Prop}{I l:Addr}{items:Array Value}(hh:A.handled=none) (hne:l≠I) (hit:s.heap.IsRevIter I l ((items.size:Int)-1)) (hl:s.heap.IsList l items)
  (S:Addr) (hSI:S≠I) (hSl:S≠l) (hS:s.heap.get? S=some { cls:=.type "list",data:=.seq #[] }) (hn:items.size<=sizeLine)
  (hR:∀h' tk acc' c',(∀b o,b≠S->b≠I->s.heap.get? b=some o->h'.get? b=some o)->h'.get? S=some { cls:=.type "list",dict:=none,data:=.seq acc' c',slots:=#[] }->
   ItemsOf (fun i v=>items[items.size-1-i]?=some v) acc' items.size->R (.ok (.ret .none)) { s with heap:=h',toks:=tk }):
  wpAny (model prog w) A.in1 (Builtin.«list.__init__» ⟨[.ref S,.ref I],[]⟩)
   (fun fin s'=>match fin with|.done f=>R (.ok f) s'|.again c'=>c'.quiet=true/\codeAny (model prog w) A c' R s') (fun e s'=>R (.error e) s') s:=by
 show wpAny _ A.in1 (do let old <- Builtin.List.listItems (.ref S);Builtin.List.listUpdate (.ref S) (fun _=>#[]);letGo old.toList.reverse;Builtin.List.listExtendWith (.ref S) (.ref I) .none) _ _ s
 refine xc ?_
 unfold Builtin.List.listItems
 refine xc (vz hS rfl (xf ?_))
 show wpAny _ A.in1 (updateSeq S (fun _=>#[]) >>= fun _=>letGo (#[]:Array Value).toList.reverse >>= fun _=>Builtin.List.listExtendWith (.ref S) (.ref I) .none) _ _ s
 refine xc (wpAny_updateSeq hS rfl ?_)
 have hS₂:=vL (Obj.mapSeq (fun _=>(#[]:Array Value))) hS rfl
 have oth:∀b o,b≠S->s.heap.get? b=some o->(s.heap.update S (Obj.mapSeq (fun _=>(#[]:Array Value)))).get? b=some o:=
  fun b o hb e=>(yc _ _ (xw hb)).trans e
 refine xc (wpAny_letGo ?_)
 refine zJe hh hne (hit.at fun o e=>oth I o (xw hSI) e) (hl.at fun o e=>oth l o (xw hSl) e) S .none _ hSI hSl hS₂ hn fun h' tk acc' c' hk hS' hacc=>?_
 exact hR h' tk acc' c' (fun b o hb hb' e=>hk b o hb hb' (oth b o hb e)) hS' hacc
theorem call_list_rev {Q:Value->Shared->Prop}{I l:Addr}{items:Array Value}(hh:A.handled=none) (hne:l≠I) (hit:s.heap.IsRevIter I l ((items.size:Int)-1)) (hl:s.heap.IsList l items) (hn:items.size<=sizeLine)
  (hQ:∀h' tk acc' c',(∀b o,b≠I->s.heap.get? b=some o->h'.get? b=some o)->h'.get? s.heap.objs.size=some { cls:=.type "list",dict:=none,data:=.seq acc' c',slots:=#[] }->
   ItemsOf (fun i v=>items[items.size-1-i]?=some v) acc' items.size->Q (.ref s.heap.objs.size) { s with heap:=h',toks:=tk }):wpAny (model prog w) A (call (.type "list") [.ref I]) Q E s:=by
 refine callType_codes (Q₁:=fun obj s₁=>obj=.ref s.heap.objs.size/\s₁={ s with heap:=s.heap.push { cls:=.type "list",data:=.seq #[] } }) F.called_list (F.typeCall_list_1 _) F.entry_list_init
  (code_list_new _ ⟨rfl,rfl⟩) fun obj s₁ h₁=>?_
 obtain⟨rfl,rfl⟩:=h₁
 have hS:(s.heap.push { cls:=.type "list",data:=.seq #[] }).get? s.heap.objs.size=some { cls:=.type "list",data:=.seq #[] }:=xD _ rfl
 have nI:s.heap.objs.size≠I:=by obtain⟨o,ho,_⟩:=hit;exact xw (xr (xl ho))
 have nl:s.heap.objs.size≠l:=by obtain⟨o,ho,_⟩:=hl;exact xw (xr (xl ho))
 refine⟨⟨_,hS,rfl⟩,F.args_list_init_2 _ _,zP3 (A:=A.in1) hh hne (hit.at fun o e=>xm _ e) (hl.at fun o e=>xm _ e) _ nI nl hS hn fun h' tk acc' c' hk hS' hacc=>?_⟩
 exact⟨rfl,hQ h' tk acc' c' (fun b o hb e=>hk b o (xr (xl e)) hb (xm _ e)) hS' hacc⟩
end
end LX
namespace L2
open PySem PySem.Spec PyProof.Rows
section
variable {X:Cx}
noncomputable def zEs (K:PySem.W.Frag) (te:TE):TE:=fun σ H Q=>te σ H fun x H1=>∃a xs,x=.ref a/\SqL K H1 a xs/\∀l,H1 l=none->Q (.ref l) (upd H1 l (.lst xs.reverse))
theorem zGt {xs:List V}{its:List Value}{acc:Array Value}(r:Vals xs its) (h:ItemsOf (fun i v=>its.toArray[its.toArray.size-1-i]?=some v) acc its.toArray.size):acc.toList=its.reverse:=by
 obtain⟨hs,hi⟩:=h
 have hs':acc.size=its.length:=by simpa using hs
 refine List.ext_getElem? fun j=>?_
 rcases vj j its.length with hj|hj
 ·have e1:acc[j]?=some (acc[j]'(by nofun)):=xT (by nofun)
  have e2:=hi j _ e1
  rw[uo,e1,List.getElem?_reverse hj,<- e2]
  simp
 ·rw[vU (by simpa[hs']using hj),vU (by simpa using hj)]
theorem zJ2 {e:Expr}{te:TE}{p p2 pos pos2:Pos}(hc:X.calm=true) (he:PE X e te) (hgl:Gl X "list") (hml:X.mg "list"=none) (hgr:Gl X "reversed") (hmr:X.mg "reversed"=none)
  (hs:starEach [e] X.env=[(false,eval e X.env)]:=by rfl)
  (hs2:starEach [Expr.Call (.Name "reversed" p2) [e] [] pos2] X.env=[(false,eval (.Call (.Name "reversed" p2) [e] [] pos2) X.env)]:=by rfl):
  PE X (.Call (.Name "list" p) [.Call (.Name "reversed" p2) [e] [] pos2] [] pos) (zEs X.K te):=by
 intro pins s σ H Q I h
 refine vG (zBm I hgl hml PyProof.Rows.boot_list ?_)
 refine v3 ?_ hs2 rfl
 rw[hs2]
 show wpAny _ _ (spliced ((false,eval (.Call (.Name "reversed" p2) [e] [] pos2) X.env)::backTo pos [])) _ _ s
 refine v8 ?_
 refine vG (zBm I hgr hmr PyProof.Rows.boot_reversed ?_)
 refine v3 ?_ hs rfl
 rw[hs]
 show wpAny _ _ (spliced ((false,eval e X.env)::backTo pos2 [])) _ _ s
 refine v8 (thn (he pins s σ H _ I h) fun u s1 hq1=>?_)
 obtain⟨x,H1,I1,r1,a,xs,ex,hq,q⟩:=hq1
 subst ex
 cases r1
 refine v7 ?_
 obtain⟨its,rv,pl,hz⟩:=I1.list hq
 refine call_reversed_list pl.isList ?_
 refine v7 ?_
 have I2:Inv X pins σ H1 { s1 with heap:=s1.heap.push (revObj a ((its.toArray.size:Int)-1)) }:=I1.kept fun b o e=>xm _ e
 have hne:a≠s1.heap.objs.size:=by obtain⟨o,ho,_⟩:=pl.isList;exact xr (xl ho)
 refine LX.call_list_rev (I.ok.hd hc) hne ⟨_,xD _ rfl,rfl,rfl⟩ (pl.isList.at fun o e=>xm _ e) (by simpa[<- rv.length]using hz) fun h' tk acc c kp ho hi=>?_
 have hfr:=I1.hok.fresh (xi _)
 have fp:=I1.fpOk (xi _) hfr
 have I3:=Inv.turned (t':=tk) I2 (fun b o hb e=>kp b o hb e) fp.1 fp.2.1 fp.2.2.2.1 fp.2.2.2.2.1 fp.2.2.2.2.2
 generalize hDD:(s1.heap.push (revObj a ((its.toArray.size:Int)-1))).objs.size=D at ho ⊢
 have hD:H1 D=none:=by rw[<- hDD];exact I2.hok.fresh (xi _)
 have fD:=I2.fpOk (by rw[<- hDD];exact xi _) hD
 have e1:=zGt rv hi
 have ho':h'.get? D=some { cls:=.type "list",dict:=none,data:=.seq (its.reverse).toArray c,slots:=#[] }:=by rw[ho,<- e1]
 have hok:HOk X.prog X.w (upd H1 D (.lst xs.reverse)) h':=HOk.adopt I3.hok hD ⟨by rw[uU];exact hz,_,_,rv.reverse,ho'⟩
 have I4:Inv X pins σ (upd H1 D (.lst xs.reverse)) { s1 with heap:=h',toks:=tk }:=by
  refine Inv.call' (ch:=[s1.heap.objs.size]) I2 rfl ?_ hok I3.bare fun b hb=>?_
  ·have ne:∀b,b ∉ [s1.heap.objs.size]->b≠s1.heap.objs.size:=fun b hb z=>hb (by simp[z])
   exact⟨fun b o e _ _ hx=>kp b o (ne b hx) e,fun b o e _ _ hx=>⟨o.slots,kp b o (ne b hx) e⟩,fun b o e n _=>by
     rw[zA7 (xr (xE (xl e) (by rw[<- hDD];exact xi _)))];exact n,fun b o e hx=>⟨o,kp b o (ne b hx) e⟩,
    fun b ys e=>by rw[zA7 (zA3 e hD)];exact e,fun b o u e=>by rw[zA7 (zA3 e hD)];exact e,fun b ps e=>⟨#[],by rw[zA7 (zA3 e hD),e];simp⟩⟩
  ·have e:b=s1.heap.objs.size:=by simpa using hb
   subst e
   exact⟨fp.2.2.2.1,fp.2.1,fp.2.2.2.2.1,fp.2.2.2.2.2⟩
 exact⟨.ref D,_,I4,rfl,q D hD⟩
theorem zEr {A:Around}{P:Program}{w:World}{bs:List Bool}{its:List Value}(r:Vals (bs.map V.bl) its):TruthOf P w A (fun i v=>its.toArray[i]?=some v) (fun i=>bs.getD i false):=by
 intro i v s Q E hv hq
 have hv':its[i]?=some v:=by simpa using hv
 have hlt:=(xK.mp hv').1
 have hl:=r.length
 rw[xF]at hl
 have hb:(bs.map V.bl)[i]?=some (V.bl (bs[i]'(by nofun))):=by rw[vx,xu (by nofun)];rfl
 obtain⟨u,hu,ru⟩:=r.get hb
 rw[hv']at hu
 cases hu
 cases ru
 dsimp only at hq
 rw[List.getD_eq_getElem?_getD,xu (by nofun)]at hq
 exact vZ hq
theorem zDy:∀bs:List Bool,((List.range bs.length).all fun i=>bs.getD i false)=bs.all id:=by
 intro bs
 rw[v5,vK,vK]
 constructor
 ·intro h b hb
  obtain⟨i,hi,rfl⟩:=vM.mp hb
  have:=h i (vB.mpr hi)
  simpa[List.getD_eq_getElem?_getD,hi]using this
 ·intro h i hi
  have hi':=vB.mp hi
  have:=h bs[i] (List.getElem_mem hi')
  simpa[List.getD_eq_getElem?_getD,hi']using this
theorem zN6 (hc:X.calm=true):zAx X (.builtin "all") (fun xs H Q=>∃(p:Addr) (bs:List Bool),xs=[.ref p]/\SqL X.K H p (bs.map V.bl)/\Q (.bl (bs.all id)) H):=by
 intro pins s σ H xs us Q I r h
 obtain⟨p,bs,rfl,hq,q⟩:=h
 obtain⟨u,rfl,rx⟩:=vals1 r
 cases rx
 obtain⟨its,rv,pl,hz⟩:=I.list hq
 have hl:=rv.length
 rw[xF]at hl
 have hne:p≠s.heap.objs.size:=by obtain⟨o,ho,_⟩:=pl.isList;exact xr (xl ho)
 refine call_all_walk (uV pl.isList ?_)
 refine⟨_,_,_,_,_,_,_,rfl,Walks.list (A:=X.A.in1) (I.ok.hd hc) _ p hne its.toArray,⟨⟨_,xD _ rfl,rfl,rfl⟩,pl.isList.at fun o e=>xm _ e⟩,zEr rv,fun h' tk hk=>?_⟩
 have hfr:=I.hok.fresh (xi _)
 have fp:=I.fpOk (xi _) hfr
 have e:((List.range its.toArray.size).all fun i=>bs.getD i false)=bs.all id:=by rw[xq,<- hl];exact zDy bs
 rw[e]
 exact⟨.bl (bs.all id),H,Inv.turned (I.kept fun b o e=>xm _ e) (fun b o hb e=>hk b o (by simpa using hb) e) fp.1 fp.2.1 fp.2.2.2.1 fp.2.2.2.2.1 fp.2.2.2.2.2,rfl,q⟩
end
end L2
namespace L2
open PySem PySem.Spec PyProof.Rows
inductive Dv where
 | non|bl (b:Bool)|int (i:Int)|str (x:Str)|tup (l:List Dv)|lst (l:List Dv)
mutual
noncomputable def Dv.eqv:Dv->Dv->Bool
 | .non,.non=>true
 | .bl a,.bl b=>a == b
 | .int a,.int b=>a == b
 | .str a,.str b=>decide (a=b)
 | .tup a,.tup b=>eqvL a b
 | .lst a,.lst b=>eqvL a b
 | _,_=>false
noncomputable def eqvL:List Dv->List Dv->Bool
 | [],[]=>true
 | a::r,b::t=>a.eqv b && eqvL r t
 | _,_=>false
end
mutual
noncomputable def Dv.cmp:Dv->Dv->Bool
 | .non,.non=>true
 | .bl _,.bl _=>true
 | .int _,.int _=>true
 | .str _,.str _=>true
 | .tup a,.tup b=>cmpL a b
 | .lst a,.lst b=>cmpL a b
 | _,_=>false
noncomputable def cmpL:List Dv->List Dv->Bool
 | a::r,b::t=>a.cmp b && cmpL r t
 | _,_=>true
end
mutual
noncomputable def Dv.dep:Dv->Nat
 | .tup l=>depL l+1
 | .lst l=>depL l+1
 | _=>0
noncomputable def depL:List Dv->Nat
 | []=>0
 | d::r=>max d.dep (depL r)
end
mutual
noncomputable def Den (K:PySem.W.Frag) (H:Hp):Dv->V->Prop
 | .non,v=>v=.non
 | .bl b,v=>v=.bl b
 | .int i,v=>v=.int i
 | .str x,v=>v=.str x
 | .tup ds,v=>∃a xs,v=.ref a/\SqT K H a xs/\DenL K H ds xs
 | .lst ds,v=>∃a xs,v=.ref a/\SqL K H a xs/\DenL K H ds xs
noncomputable def DenL (K:PySem.W.Frag) (H:Hp):List Dv->List V->Prop
 | [],xs=>xs=[]
 | d::ds,xs=>∃x r,xs=x::r/\Den K H d x/\DenL K H ds r
end
mutual
theorem Dv.eqv_iff:∀(a b:Dv),a.eqv b=true <-> a=b
 | .non,b=>by cases b <;> simp[Dv.eqv]
 | .bl x,b=>by cases b <;> simp[Dv.eqv]
 | .int x,b=>by cases b <;> simp[Dv.eqv]
 | .str x,b=>by cases b <;> simp[Dv.eqv]
 | .tup l,b=>by
  cases b with
  | tup m=>simp only[Dv.eqv,Dv.tup.injEq];exact zBf l m
  | _=>simp[Dv.eqv]
 | .lst l,b=>by
  cases b with
  | lst m=>simp only[Dv.eqv,Dv.lst.injEq];exact zBf l m
  | _=>simp[Dv.eqv]
theorem zBf:∀(a b:List Dv),eqvL a b=true <-> a=b
 | [],b=>by cases b <;> simp[eqvL]
 | x::r,b=>by
  cases b with
  | nil=>simp[eqvL]
  | cons y t=>simp only[eqvL,xt,List.cons.injEq,Dv.eqv_iff x y,zBf r t]
end
section
variable {X:Cx}{pins:List (Addr × Obj)}{σ:St}{H:Hp}{s:Shared}
mutual
theorem Den.inj (I:Inv X pins σ H s):∀(d e:Dv) (v:V),Den X.K H d v->Den X.K H e v->d.cmp e=true->d=e
 | .non,e,v,h,h',c=>by cases e <;> simp[Dv.cmp]at c;rfl
 | .bl x,e,v,h,h',c=>by
  cases e <;> simp[Dv.cmp]at c
  have:=Eq.trans (Eq.symm (h)) (h')
  cases this;rfl
 | .int x,e,v,h,h',c=>by
  cases e <;> simp[Dv.cmp]at c
  have:=Eq.trans (Eq.symm (h)) (h')
  cases this;rfl
 | .str x,e,v,h,h',c=>by
  cases e <;> simp[Dv.cmp]at c
  have:=Eq.trans (Eq.symm (h)) (h')
  cases this;rfl
 | .tup l,e,v,h,h',c=>by
  cases e with
  | tup m=>
   obtain⟨a,xs,e1,q1,r1⟩:=h
   obtain⟨b,ys,e2,q2,r2⟩:=h'
   have e3:=Eq.trans (Eq.symm e1) e2
   cases e3
   have e4:=I.tuple_inj q1 q2
   subst e4
   rw[DenL.inj I l m xs r1 r2 (by simpa[Dv.cmp]using c)]
  | _=>simp[Dv.cmp]at c
 | .lst l,e,v,h,h',c=>by
  cases e with
  | lst m=>
   obtain⟨a,xs,e1,q1,r1⟩:=h
   obtain⟨b,ys,e2,q2,r2⟩:=h'
   have e3:=Eq.trans (Eq.symm e1) e2
   cases e3
   have e4:=I.list_inj q1 q2
   subst e4
   rw[DenL.inj I l m xs r1 r2 (by simpa[Dv.cmp]using c)]
  | _=>simp[Dv.cmp]at c
theorem DenL.inj (I:Inv X pins σ H s):∀(ds es:List Dv) (xs:List V),DenL X.K H ds xs->DenL X.K H es xs->cmpL ds es=true->ds=es
 | [],es,xs,h,h',c=>by
  cases es with
  | nil=>rfl
  | cons e es=>
   obtain⟨x,r,e1,_⟩:=h'
   rw[show xs=[]from h]at e1
   cases e1
 | d::ds,es,xs,h,h',c=>by
  cases es with
  | nil=>
   obtain⟨x,r,e1,_⟩:=h
   rw[show xs=[]from h']at e1
   cases e1
  | cons e es=>
   obtain⟨x,r,e1,h1,h2⟩:=h
   obtain⟨y,t,e2,h3,h4⟩:=h'
   have e3:=Eq.trans (Eq.symm e1) e2
   cases e3
   simp only[cmpL,xt]at c
   rw[Den.inj I d e x h1 h3 c.1,DenL.inj I ds es r h2 h4 c.2]
end
theorem DenL.len {K:PySem.W.Frag}{H:Hp}:∀{ds:List Dv}{xs:List V},DenL K H ds xs->ds.length=xs.length
 | [],_,h=>by rw[show _=[]from h];rfl
 | d::ds,xs,⟨x,r,e,_,h⟩=>by rw[e,xH,xH,DenL.len h]
theorem DenL.get {K:PySem.W.Frag}{H:Hp}:∀{ds:List Dv}{xs:List V}{j:Nat}{d:Dv}{x:V},DenL K H ds xs->ds[j]?=some d->xs[j]?=some x->Den K H d x
 | [],_,_,_,_,_,e,_=>by simp at e
 | d::ds,xs,0,d',x',⟨x,r,e,h1,_⟩,e1,e2=>by
  subst e
  simp at e1 e2
  subst e1 e2
  exact h1
 | d::ds,xs,j+1,d',x',⟨x,r,e,_,h2⟩,e1,e2=>by
  subst e
  exact DenL.get (j:=j) h2 (by simpa using e1) (by simpa using e2)
theorem zDc:∀{ds es:List Dv}{j:Nat}{d e:Dv},cmpL ds es=true->ds[j]?=some d->es[j]?=some e->d.cmp e=true
 | [],_,_,_,_,_,h,_=>by simp at h
 | _::_,[],_,_,_,_,_,h=>by simp at h
 | a::r,b::t,0,d,e,c,h1,h2=>by
  simp at h1 h2
  subst h1 h2
  simp only[cmpL,xt]at c
  exact c.1
 | a::r,b::t,j+1,d,e,c,h1,h2=>by
  simp only[cmpL,xt]at c
  exact zDc (j:=j) c.2 (by simpa using h1) (by simpa using h2)
theorem zDa:∀{ds:List Dv}{j:Nat}{d:Dv},ds[j]?=some d->d.dep<=depL ds
 | [],_,_,h=>by simp at h
 | a::r,0,d,h=>by simp at h;subst h;simp only[depL];lia
 | a::r,j+1,d,h=>by
  have:=zDa (by simpa using h)
  simp only[depL];lia
noncomputable def zCs (ds es:List Dv) (j:Nat):Bool:=match ds[j]?,es[j]? with
 | some d,some e=>d.eqv e
 | _,_=>true
theorem zBg:∀(ds es:List Dv),((List.range (min ds.length es.length)).all (zCs ds es) && ds.length == es.length)=eqvL ds es
 | [],[]=>rfl
 | [],e::es=>by simp[eqvL]
 | d::ds,[]=>by simp[eqvL]
 | d::ds,e::es=>by
  have ih:=zBg ds es
  have h1:min (d::ds).length (e::es).length=min ds.length es.length+1:=by simp only[xH];lia
  have hf:((List.range (min ds.length es.length)).map Nat.succ).all (zCs (d::ds) (e::es))=(List.range (min ds.length es.length)).all (zCs ds es):=by
   rw[List.all_map]
   rfl
  have h0:zCs (d::ds) (e::es) 0=d.eqv e:=rfl
  have h2:((d::ds).length == (e::es).length)=(ds.length == es.length):=by simp
  rw[h1,List.range_succ_eq_map,vV,hf,h0,h2,Bool.and_assoc,ih,eqvL]
theorem units_in1 (A:Around):A.in1.units=A.units+1:=rfl
theorem zWu (I:Inv X pins σ H s):∀(n:Nat) (d e:Dv),d.dep<=n->∀(A:Around) (x y:V) (u v:Value),A.units+n<cLine->Den X.K H d x->Den X.K H e y->RelV x u->RelV y v->d.cmp e=true->SeqAt.EqAt A s u v (d.eqv e):=by
 intro n
 induction n with
 | zero=>
  intro d e hd A x y u v hu h1 h2 r1 r2 hc
  cases d with
  | non=>cases e <;> simp[Dv.cmp]at hc;rw[show x=.non from h1]at r1;rw[show y=.non from h2]at r2;cases r1;cases r2;exact SeqAt.EqAt.same _
  | bl a=>cases e with|bl b=>(rw[show x=.bl a from h1]at r1;rw[show y=.bl b from h2]at r2;cases r1;cases r2;exact SeqAt.EqAt.bool_bool a b)|_=>simp[Dv.cmp]at hc
  | int a=>cases e with|int b=>(rw[show x=.int a from h1]at r1;rw[show y=.int b from h2]at r2;obtain⟨t,rfl⟩:=r1;obtain⟨t',rfl⟩:=r2;exact SeqAt.EqAt.int_int a t b t')|_=>simp[Dv.cmp]at hc
  | str a=>cases e with|str b=>(rw[show x=.str a from h1]at r1;rw[show y=.str b from h2]at r2;obtain⟨t,rfl⟩:=r1;obtain⟨t',rfl⟩:=r2;have q:=SeqAt.EqAt.str_str (A:=A) (s:=s) a t b t';rw[Bool.beq_eq_decide_eq]at q;exact q)|_=>simp[Dv.cmp]at hc
  | tup l=>simp[Dv.dep]at hd
  | lst l=>simp[Dv.dep]at hd
 | succ n ih=>
  intro d e hd A x y u v hu h1 h2 r1 r2 hc
  cases d with
  | non=>exact ih .non e (by simp[Dv.dep]) A x y u v (by nofun) h1 h2 r1 r2 hc
  | bl a=>exact ih (.bl a) e (by simp[Dv.dep]) A x y u v (by nofun) h1 h2 r1 r2 hc
  | int a=>exact ih (.int a) e (by simp[Dv.dep]) A x y u v (by nofun) h1 h2 r1 r2 hc
  | str a=>exact ih (.str a) e (by simp[Dv.dep]) A x y u v (by nofun) h1 h2 r1 r2 hc
  | tup l=>
   cases e with
   | tup m=>
    obtain⟨a,xs,ea,qa,ra⟩:=id h1
    obtain⟨b,ys,eb,qb,rb⟩:=id h2
    subst ea eb
    cases r1
    cases r2
    by_cases hab:a=b
    ·subst hab
     have e1:=Den.inj I _ _ _ h1 h2 hc
     rw[(Dv.eqv_iff _ _).mpr e1]
     exact SeqAt.EqAt.same _
    ·obtain⟨its,va,ta,_⟩:=I.tuple qa
     obtain⟨jts,vb,tb,_⟩:=I.tuple qb
     have la:=ra.len.trans va.length
     have lb:=rb.len.trans vb.length
     refine SeqAt.EqAt.of_refs hab ?_
     have key:=SeqAt.RcAt.tuples (A:=A) (e:=zCs l m) (ta) (tb) (by nofun) (fun j h1' h2'=>?_)
     ·simp only[xq]at key
      rw[<- la,<- lb,zBg]at key
      exact key
     ·simp only[xq]at h1' h2'
      simp only[List.getElem_toArray]
      have gl:l[j]?=some (l[j]'(by nofun)):=xu (by nofun)
      have gm:m[j]?=some (m[j]'(by nofun)):=xu (by nofun)
      have gx:xs[j]?=some (xs[j]'(by rw[va.length];lia)):=xu _
      have gy:ys[j]?=some (ys[j]'(by rw[vb.length];lia)):=xu _
      obtain⟨u',gu,ru⟩:=va.get gx
      obtain⟨v',gv,rv⟩:=vb.get gy
      rw[xu h1']at gu
      rw[xu h2']at gv
      cases gu
      cases gv
      have e1:zCs l m j=(l[j]'(by nofun)).eqv (m[j]'(by nofun)):=by simp only[zCs,gl,gm]
      rw[e1]
      have hdep:=zDa gl
      simp only[Dv.dep]at hd
      simp only[Dv.cmp]at hc
      exact ih _ _ (by nofun) A.in1 _ _ _ _ (by rw[units_in1];lia) (ra.get gl gx) (rb.get gm gy) ru rv (zDc hc gl gm)
   | _=>simp[Dv.cmp]at hc
  | lst l=>
   cases e with
   | lst m=>
    obtain⟨a,xs,ea,qa,ra⟩:=id h1
    obtain⟨b,ys,eb,qb,rb⟩:=id h2
    subst ea eb
    cases r1
    cases r2
    by_cases hab:a=b
    ·subst hab
     have e1:=Den.inj I _ _ _ h1 h2 hc
     rw[(Dv.eqv_iff _ _).mpr e1]
     exact SeqAt.EqAt.same _
    ·obtain⟨its,va,ta,_⟩:=I.list qa
     obtain⟨jts,vb,tb,_⟩:=I.list qb
     have la:=ra.len.trans va.length
     have lb:=rb.len.trans vb.length
     refine SeqAt.EqAt.of_refs hab ?_
     by_cases hsz:its.length=jts.length
     ·have key:=SeqAt.RcAt.lists (A:=A) (e:=zCs l m) ta.isList tb.isList (by simpa using hsz) (by nofun) (fun j h1' h2'=>?_)
      ·simp only[xq]at key
       have e2:=zBg l m
       rw[la,lb,hsz,Nat.min_self,uE,Bool.and_true]at e2
       rw[hsz,e2]at key
       exact key
      ·simp only[xq]at h1' h2'
       simp only[List.getElem_toArray]
       have gl:l[j]?=some (l[j]'(by nofun)):=xu (by nofun)
       have gm:m[j]?=some (m[j]'(by nofun)):=xu (by nofun)
       have gx:xs[j]?=some (xs[j]'(by rw[va.length];lia)):=xu _
       have gy:ys[j]?=some (ys[j]'(by rw[vb.length];lia)):=xu _
       obtain⟨u',gu,ru⟩:=va.get gx
       obtain⟨v',gv,rv⟩:=vb.get gy
       rw[xu h1']at gu
       rw[xu h2']at gv
       cases gu
       cases gv
       have e1:zCs l m j=(l[j]'(by nofun)).eqv (m[j]'(by nofun)):=by simp only[zCs,gl,gm]
       rw[e1]
       have hdep:=zDa gl
       simp only[Dv.dep]at hd
       simp only[Dv.cmp]at hc
       exact ih _ _ (by nofun) A.in1 _ _ _ _ (by rw[units_in1];lia) (ra.get gl gx) (rb.get gm gy) ru rv (zDc hc gl gm)
     ·have e2:(Dv.lst l).eqv (.lst m)=false:=by
       rw[uF]
       intro z
       have z':=(Dv.eqv_iff _ _).mp z
       cases z'
       lia
      rw[e2]
      exact SeqAt.RcAt.lists_lengths ta.isList tb.isList (by simpa using hsz) (by nofun)
   | _=>simp[Dv.cmp]at hc
theorem zFc (I:Inv X pins σ H s) {l m:List Dv}{xs ys:List V}{its jts:List Value}{A:Around}(hd:depL l<=60) (hu:A.units+64<cLine) (ra:DenL X.K H l xs) (rb:DenL X.K H m ys) (va:Vals xs its) (vb:Vals ys jts) (hc:cmpL l m=true)
  (j:Nat) (h1':j<its.toArray.size) (h2':j<jts.toArray.size):SeqAt.EqAt A.in1 s its.toArray[j] jts.toArray[j] (zCs l m j):=by
 simp only[xq]at h1' h2'
 simp only[List.getElem_toArray]
 have la:=ra.len.trans va.length
 have lb:=rb.len.trans vb.length
 have gl:l[j]?=some (l[j]'(by nofun)):=xu (by nofun)
 have gm:m[j]?=some (m[j]'(by nofun)):=xu (by nofun)
 have gx:xs[j]?=some (xs[j]'(by rw[va.length];lia)):=xu _
 have gy:ys[j]?=some (ys[j]'(by rw[vb.length];lia)):=xu _
 obtain⟨u',gu,ru⟩:=va.get gx
 obtain⟨v',gv,rv⟩:=vb.get gy
 rw[xu h1']at gu
 rw[xu h2']at gv
 cases gu
 cases gv
 have e1:zCs l m j=(l[j]'(by nofun)).eqv (m[j]'(by nofun)):=by simp only[zCs,gl,gm]
 rw[e1]
 have hdep:=zDa gl
 exact zWu I 60 _ _ (by nofun) A.in1 _ _ _ _ (by rw[units_in1];lia) (ra.get gl gx) (rb.get gm gy) ru rv (zDc hc gl gm)
noncomputable def rEqD (K:PySem.W.Frag) (neg:Bool):R2:=fun x y H Q=>(∃l m,Den K H (.tup l) x/\Den K H (.tup m) y/\cmpL l m=true/\depL l<=60/\Q (.bl (if neg then !eqvL l m else eqvL l m)) H) \/
 ∃l m,Den K H (.lst l) x/\Den K H (.lst m) y/\cmpL l m=true/\depL l<=60/\Q (.bl (if neg then !eqvL l m else eqvL l m)) H
theorem zQ7 (hu:X.A.units+64<cLine):OpR X (compareOp .Eq) (rEqD X.K false):=by
 intro pins s σ H x y v u Q I rx ry h
 rcases h with⟨l,m,⟨a,xs,ea,qa,ra⟩,⟨b,ys,eb,qb,rb⟩,hc,hd,q⟩|⟨l,m,⟨a,xs,ea,qa,ra⟩,⟨b,ys,eb,qb,rb⟩,hc,hd,q⟩
 ·subst ea eb
  cases rx
  cases ry
  obtain⟨its,va,ta,_⟩:=I.tuple qa
  obtain⟨jts,vb,tb,_⟩:=I.tuple qb
  have la:=ra.len.trans va.length
  have lb:=rb.len.trans vb.length
  refine SeqAt.RcAt.tuples (ta) (tb) (by nofun) (fun j h1 h2=>zFc I hd hu ra rb va vb hc j h1 h2) _ _ _ _ ?_
  simp only[xq]
  rw[<- la,<- lb,zBg]
  exact⟨.bl _,H,I,rfl,q⟩
 ·subst ea eb
  cases rx
  cases ry
  obtain⟨its,va,ta,_⟩:=I.list qa
  obtain⟨jts,vb,tb,_⟩:=I.list qb
  have la:=ra.len.trans va.length
  have lb:=rb.len.trans vb.length
  by_cases hsz:its.length=jts.length
  ·refine SeqAt.RcAt.lists ta.isList tb.isList (by simpa using hsz) (by nofun) (fun j h1 h2=>zFc I hd hu ra rb va vb hc j h1 h2) _ _ _ _ ?_
   have e2:=zBg l m
   rw[la,lb,hsz,Nat.min_self,uE,Bool.and_true]at e2
   simp only[xq]
   rw[hsz,e2]
   exact⟨.bl _,H,I,rfl,q⟩
  ·refine SeqAt.RcAt.lists_lengths ta.isList tb.isList (by simpa using hsz) (by nofun) _ _ _ _ ?_
   have e2:eqvL l m=false:=by
    rw[uF]
    intro z
    have z':=(zBf _ _).mp z
    subst z'
    lia
   rw[e2]at q
   exact⟨.bl _,H,I,rfl,q⟩
theorem zQ5 (hu:X.A.units+64<cLine):OpR X (compareOp .NotEq) (rEqD X.K true):=by
 intro pins s σ H x y v u Q I rx ry h
 rcases h with⟨l,m,⟨a,xs,ea,qa,ra⟩,⟨b,ys,eb,qb,rb⟩,hc,hd,q⟩|⟨l,m,⟨a,xs,ea,qa,ra⟩,⟨b,ys,eb,qb,rb⟩,hc,hd,q⟩
 ·subst ea eb
  cases rx
  cases ry
  obtain⟨its,va,ta,_⟩:=I.tuple qa
  obtain⟨jts,vb,tb,_⟩:=I.tuple qb
  have la:=ra.len.trans va.length
  have lb:=rb.len.trans vb.length
  refine SeqAt.RcNeAt.tuples (ta) (tb) (by nofun) (fun j h1 h2=>zFc I hd hu ra rb va vb hc j h1 h2) _ _ _ _ ?_
  simp only[xq]
  rw[<- la,<- lb,zBg]
  exact⟨.bl _,H,I,rfl,q⟩
 ·subst ea eb
  cases rx
  cases ry
  obtain⟨its,va,ta,_⟩:=I.list qa
  obtain⟨jts,vb,tb,_⟩:=I.list qb
  have la:=ra.len.trans va.length
  have lb:=rb.len.trans vb.length
  by_cases hsz:its.length=jts.length
  ·refine SeqAt.RcNeAt.lists ta.isList tb.isList (by simpa using hsz) (by nofun) (fun j h1 h2=>zFc I hd hu ra rb va vb hc j h1 h2) _ _ _ _ ?_
   have e2:=zBg l m
   rw[la,lb,hsz,Nat.min_self,uE,Bool.and_true]at e2
   simp only[xq]
   rw[hsz,e2]
   exact⟨.bl _,H,I,rfl,q⟩
  ·refine SeqAt.RcNeAt.lists_lengths ta.isList tb.isList (by simpa using hsz) (by nofun) _ _ _ _ ?_
   have e2:eqvL l m=false:=by
    rw[uF]
    intro z
    have z':=(zBf _ _).mp z
    subst z'
    lia
   rw[e2]at q
   exact⟨.bl _,H,I,rfl,q⟩
noncomputable def gLst (K:PySem.W.Frag) (n:Nat) (t:TGs):TG:=fun v σ H Q=>∃a xs,v=.ref a/\SqL K H a xs/\xs.length=n/\t xs σ H Q
theorem zIl {prog:Program}{w:World}{A:Around}{E:Value->Shared->Prop}{it t:Addr}{items:Array Value}(hne:t≠it):∀(n i:Nat) (s:Shared) (Q:List Value->Shared->Prop),s.heap.IsListIter it t i->s.heap.IsList t items->i+n<=items.size->
  (∀h',h'.IsListIter it t (i+n)->Heap.SameBut it s.heap h'->Q ((items.toList.drop i).take n) { s with heap:=h' })->wpAny (model prog w) A (draw (.ref it) n) Q E s
 | 0,i,s,Q,hit,_,_,hQ=>by
  show wpAny _ _ (pure []) Q E s
  exact xf (by simpa using hQ s.heap hit (Heap.SameBut.refl ..))
 | n+1,i,s,Q,hit,ht,hle,hQ=>by
  have hlt:i<items.size:=by nofun
  show wpAny _ _ (pyNext (.ref it) >>= _) Q E s
  refine xc (wpAny_pyNext_list_item hit ht (x:=items[i]) (by simp[hlt]) fun h₁ hit₁ hs₁=>?_)
  refine xc (xC (zIl hne n (i+1) { s with heap:=h₁ } _ hit₁ (ht.at fun o e=>hs₁.extBut t o hne e) (by nofun) fun h₂ hit₂ hs₂=>xf ?_))
  have hd:items.toList.drop i=items[i]::items.toList.drop (i+1):=by simp[List.drop_eq_getElem_cons,hlt]
  have:=hQ h₂ (by rw[show i+(n+1)=i+1+n by nofun];exact hit₂) (hs₁.trans hs₂)
  rw[hd,List.take_succ_cons]at this
  exact this
theorem zDd {prog:Program}{w:World}{A:Around}{E:Value->Shared->Prop}{s:Shared}{t:Addr}{items:Array Value}{Q:List Value->Shared->Prop}(hh:A.handled=none) (ht:s.heap.IsList t items)
  (hQ:∀h',Heap.ExtBut s.heap.objs.size s.heap h'->Q items.toList { s with heap:=h' }):wpAny (model prog w) A (unpackItems (.ref t) items.size none) Q E s:=by
 have hlt:t≠s.heap.objs.size:=by obtain⟨o,ho,_⟩:=ht;exact xr (xl ho)
 unfold unpackItems
 refine xc ?_
 ·unfold notIterableAtAll
  refine xc (ub ht.typeIs slot_list_iter.lookup ?_)
  refine xf ?_
  simp only[vi,xQ]
  refine xc (xC (uV ht ?_))
  refine xc (xC (zIl hlt items.size 0 _ _ ⟨_,xD _ rfl,rfl,rfl⟩ (ht.at fun o e=>xm _ e) (by nofun) fun h₁ hit₁ hs₁=>?_))
  have hall:List.take items.size (List.drop 0 items.toList)=items.toList:=by
   rw[List.drop_zero];exact uc (by simp)
  rw[hall]
  rw[xh (by simp)]
  have ht₁:=ht.at fun o e=>hs₁.extBut t o hlt (xm _ e)
  refine xc (xC (wpAny_pyNext_list_end hh hit₁ ht₁ (by simp) fun h₂ he₂=>?_))
  simp only[Option.isSome_none,vi,xQ]
  refine xf (hQ h₂ fun b o hb e=>he₂ b o hb (hs₁.extBut b o hb (xm _ e)))
theorem zV8 {es:List Expr}{k:Nat}{t:TGs}{n:Nat}{pos:Pos}(hc:X.calm=true) (h:PGs X es t)
  (hn:(assignEach es X.env).length=n:=by rfl) (hst:(assignEach es X.env).findIdx? (·.1)=none:=by rfl):PG X (.Tuple es k pos) (gLst X.K n t):=by
 intro pins s σ H v u Q I r hw
 obtain⟨a,xs,e1,hq,hl,hw⟩:=hw
 subst e1
 cases r
 obtain⟨its,rv,ht,hz⟩:=I.list hq
 rw[assign_Tuple]
 refine xc (wpAny_standAt ?_)
 unfold unpack
 rw[hst,hn,show n=its.toArray.size by rw[xq,<- rv.length,hl]]
 refine xc (xC (zDd (I.ok.hd hc) ht.isList fun h' hx=>?_))
 have I1:=I.kept (t':=s.toks) fun b o e=>hx b o (xr (xl e)) e
 exact h pins _ σ H xs _ Q I1 (by simpa using rv) hw
end
end L2
namespace L2
open PySem PySem.Spec PyProof.Rows
structure Cal (P:Program) (w:World) (K:PySem.W.Frag) (mg:Str->Option Value) (base:Heap) (x:Str) (k:Nat) (ps:List Str) (sp:Sp):Prop where
 ex:∃f fd,FnOk P w K mg base CX0 k f fd ps sp/\mg x=some (.ref f)/\PySem.W.keepIn K (.ref f)=true/\Binds K fd ps []
section
variable {X:Cx}{x:Str}{k:Nat}{ps:List Str}{sp:Sp}{e:Expr}{es:List Expr}{t:TA}{p pos:Pos}
theorem zVj (C:Cal X.prog X.w X.K X.mg X.base x k ps sp) (hr:Room k X.A) (hg:Gl X x) (ha:PA X (e::es) t) (hdb:(x == ("__debug__":Str))=false:=by decide)
  (hs:starEach (e::es) X.env=(false,eval e X.env)::starEach es X.env:=by rfl) (hpl:(backTo pos (starEach es X.env)).any (·.1)=false:=by rfl):
  PE X (.Call (.Name x p) (e::es) [] pos) (zNn sp [] E0 t):=by
 obtain⟨f,fd,F,hm,hk,hb⟩:=C.ex
 exact zS1 F hr hg hm hk hb .nil pass0 ha hdb hs hpl
end
end L2
namespace L2
open PySem PySem.Spec PyProof.Rows
noncomputable def nst:Expr->Bool
 | .Starred ..=>false
 | _=>true
theorem zAm {e:Expr}{es:List Expr}{env:Env}(h:nst e=true):starEach (e::es) env=(false,eval e env)::starEach es env:=by
 cases e <;> first|rfl|cases h
theorem zDu {env:Env}{pos:Pos}:∀{es:List Expr},es.all nst=true->(backTo pos (starEach es env)).any (·.1)=false
 | [],_=>rfl
 | e::es,h=>by
  simp only[vV,xt]at h
  rw[zAm h.1]
  show(false || (backTo pos (starEach es env)).any (·.1))=false
  rw[zDu h.2];rfl
noncomputable def nsl:Expr->Bool
 | .Slice ..=>false
 | _=>true
theorem zOc {b:Expr}(h:nsl b=true):zNe b:=fun o i=>by cases b <;> first|rfl|cases h
noncomputable def nco:Expr->Bool
 | .ListComp ..|.SetComp ..|.DictComp ..=>false
 | _=>true
theorem zEt {e:Expr}{tg:Option Expr}{l:Nat}{env:Env}(h:nco e=true):swapsWith e tg l env=pure false:=by cases e <;> first|rfl|cases h
theorem zR1 {e:Expr}{tg:Expr}{l:Nat}{env:Env}(h:nco e=true):swapsWithSole [tg] e l env=pure false:=zEt h
theorem zNq {e:Expr}{es:List Expr}{k:Nat}{p:Pos}{l:Nat}{env:Env}:swapsWithSole [.Tuple es k p] e l env=pure false:=by
 show swapsWith e (some (.Tuple es k p)) l env=pure false
 cases e <;> rfl
theorem zDw {tg:Expr}{es:List Expr}{env:Env}(h:nst tg=true):(assignEach (tg::es) env).map (·.2)=assign tg env::(assignEach es env).map (·.2):=by cases tg <;> first|rfl|cases h
theorem zAk {env:Env}:∀{es:List Expr},es.all nst=true->(assignEach es env).length=es.length/\(assignEach es env).findIdx? (·.1)=none
 | [],_=>⟨rfl,rfl⟩
 | e::es,h=>by
  simp only[vV,xt]at h
  obtain⟨h1,h2⟩:=zAk h.2
  have e1:assignEach (e::es) env=(false,assign e env)::assignEach es env:=by
   have:=h.1
   cases e <;> first|rfl|cases this
  rw[e1]
  refine⟨by rw[xH,h1,xH],?_⟩
  rw[List.findIdx?_cons]
  simp[h2]
noncomputable def nse:Expr->Bool
 | .Set ..=>false
 | _=>true
theorem zEv {e:Expr}{env:Env}(h:nse e=true) (x:Value):foldedSetIterable e env x=pure x:=by cases e <;> first|rfl|cases h
noncomputable def nba:Expr->Bool
 | .Call ..=>false
 | _=>true
theorem zDt {o:Expr}{m:Str}{env:Env}(h:nba o=true):attributeBase o m env (eval o env)=eval o env:=by cases o <;> first|rfl|cases h
noncomputable def ntt:Expr->Bool
 | .UnaryOp ..|.BoolOp ..|.IfExp ..|.Compare ..=>false
 | _=>true
theorem zQw {e:Expr}{env:Env}(h:ntt e=true) (whole:Sem Value):isTrue e env whole=(do let v <- whole;standAt e.pos;holding [v] (truthy v)):=by cases e <;> first|rfl|cases h
section
variable {X:Cx}{e o i a b:Expr}{es:List Expr}{te ta tb to ti:TE}{t:TA}{p pos cpos apos:Pos}
theorem qa (ha:PE X e te) (hr:PA X es t) (h:nst e=true:=by rfl):PA X (e::es) (zR0 te t):=zS4 ha hr (zAm h)
theorem qix {r:R2}(hr:IxR X r) (ha:PE X a ta) (hb:PE X b tb) (h:nsl b=true:=by rfl):PE X (.Subscript a b pos) (tOp r ta tb):=zYg hr ha hb (zOc h)
theorem qcal {x:Str}{k:Nat}{ps:List Str}{sp:Sp}(C:Cal X.prog X.w X.K X.mg X.base x k ps sp) (hr:Room k X.A) (hg:Gl X x) (ha:PA X (e::es) t) (hdb:(x == ("__debug__":Str))=false:=by decide)
  (h:(e::es).all nst=true:=by rfl):PE X (.Call (.Name x p) (e::es) [] pos) (zNn sp [] E0 t):=by
 simp only[vV,xt]at h
 exact zVj C hr hg ha hdb (zAm h.1) (zDu h.2)
theorem zUv {x:Str}{id:String}{r:List V->Hp->VK->Prop}(hc:zAx X (.builtin id) r) (hg:Gl X x) (hm:X.mg x=none) (hv:bootBuiltins x=some (.builtin id)) (ha:PA X (e::es) t) (hn:x≠"__name__":=by decide) (hdb:(x == ("__debug__":Str))=false:=by decide)
  (h:(e::es).all nst=true:=by rfl):PE X (.Call (.Name x p) (e::es) [] pos) (tCB r t):=by
 simp only[vV,xt]at h
 exact zOo hc hg hm hv ha hn hdb (zAm h.1) (zDu h.2)
theorem zUu {x:Str}{T:String}{r:List V->Hp->VK->Prop}(hc:zAx X (.type T) r) (hg:Gl X x) (hm:X.mg x=none) (hv:bootBuiltins x=some (.type T)) (ha:PA X (e::es) t) (hn:x≠"__name__":=by decide) (hdb:(x == ("__debug__":Str))=false:=by decide)
  (h:(e::es).all nst=true:=by rfl):PE X (.Call (.Name x p) (e::es) [] pos) (tCB r t):=by
 simp only[vV,xt]at h
 exact zL4 hc hg hm hv ha hn hdb (zAm h.1) (zDu h.2)
theorem qtruth (ha:PE X e te) (h:ntt e=true:=by rfl):PT X e (fun σ H Q=>te σ H fun x H1=>∃k,TruV X.K x H1 k/\Q k H1):=zO4 ha (zQw h)
theorem qset {j:Nat}{x:Str}{pos':Pos}(hN:X.N.Nodup) (hi:X.N[j]?=some x) (hx:Loc X.env.scope x) (he:PE X e te) (hf:X.fn x=true\/X.env.scope.names.lookup x=some .local:=by first|exact .inl rfl|exact .inr rfl|assumption) (h:nco e=true:=by rfl):
  PS X (.Assign [.Name x pos'] e pos) (tAsg te (gName j)):=zV2 hN hi hx he (zEt h) hf
theorem qgs {tg:Expr}{ts:List Expr}{g:TG}{gs:TGs}(h1:PG X tg g) (h2:PGs X ts gs) (h:nst tg=true:=by rfl):PGs X (tg::ts) (zT2 g gs):=zOh h1 h2 (zDw h)
theorem qtup {ts:List Expr}{k n:Nat}{gs:TGs}(hc:X.calm=true) (h:PGs X ts gs) (hn:ts.length=n:=by rfl) (h1:ts.all nst=true:=by rfl):PG X (.Tuple ts k pos) (gTup X.K n gs):=zV9 hc h ((zAk h1).1.trans hn) (zAk h1).2
theorem qunl {ts:List Expr}{k n:Nat}{gs:TGs}(hc:X.calm=true) (h:PGs X ts gs) (hn:ts.length=n:=by rfl) (h1:ts.all nst=true:=by rfl):PG X (.Tuple ts k pos) (gLst X.K n gs):=zV8 hc h ((zAk h1).1.trans hn) (zAk h1).2
theorem qfor {tg iter:Expr}{body:List Stmt}{wi:TI}{g:TG}{tb:TS}(hp:PassesOwn (model X.prog X.w) X.A X.env X.xe) (hc:X.calm=true) (hi:PI X tg iter wi) (hg:PG X tg g) (hb:PSs X body tb) (h:nse iter=true:=by rfl):
  PS X (.For tg iter body [] pos) (tFor wi g tb):=zV6 hp hc hi hg hb (zEv h)
theorem qexpr (he:PE X e te) (h:nco e=true:=by rfl):PS X (.Expr e pos) (zQz te):=zRo he (zEt h)
theorem qlcomp {own fre:List Str}{ix:List Nat}{scope:Scope}{tg elt iter:Expr}{ifs:List Expr}{wi:TI}{g:TG}{tt:TT}(hc:X.calm=true) (S:CompScope X own fre ix scope) (hi:PI X tg iter wi)
  (hg:∀cl C s H fp,PG (zA4 X (own++fre) scope cl C s H fp) tg g) (ht:∀cl C s H fp,PIfs (zA4 X (own++fre) scope cl C s H fp) ifs tt) (he:∀cl C s H fp,PE (zA4 X (own++fre) scope cl C s H fp) elt te)
  (h:nse iter=true:=by rfl):PE X (.ListComp elt [⟨tg,iter,ifs,0⟩] scope pos) (zGx own ix wi g tt te):=zOl hc S hi hg ht he (zEv h)
theorem qsetc {own fre:List Str}{ix:List Nat}{scope:Scope}{j:Nat}{x:Str}{pos':Pos}{tg elt iter:Expr}{ifs:List Expr}{wi:TI}{g:TG}{tt:TT}(hN:X.N.Nodup) (hix:X.N[j]?=some x) (hx:Loc X.env.scope x)
  (hc:X.calm=true) (S:CompScope X own fre ix scope) (hi:PI X tg iter wi)
  (hg:∀cl C s H fp,PG (zA4 X (own++fre) scope cl C s H fp) tg g) (ht:∀cl C s H fp,PIfs (zA4 X (own++fre) scope cl C s H fp) ifs tt) (he:∀cl C s H fp,PE (zA4 X (own++fre) scope cl C s H fp) elt te)
  (hsw:swapsWith (.ListComp elt [⟨tg,iter,ifs,0⟩] scope cpos) (some (.Name x pos')) pos.line X.env=pure true:=by rfl) (h:nse iter=true:=by rfl) (hf:X.fn x=true\/X.env.scope.names.lookup x=some .local:=by first|exact .inl rfl|exact .inr rfl|assumption):
  PS X (.Assign [.Name x pos'] (.ListComp elt [⟨tg,iter,ifs,0⟩] scope cpos) pos) (tAsg (zGx own ix wi g tt te) (gName j)):=zRm hN hix hx hc S hi hg ht he hsw (zEv h) hf
theorem qrange1 {tg:Expr}{ta:TA}(hg:Gl X "range") (hm:X.mg "range"=none) (ha:PA X [a] ta) (h:nst a=true:=by rfl):PI X tg (.Call (.Name "range" p) [a] [] pos) (zSz ta):=zL1 hg hm ha (zAm h)
theorem qlistrev {p2 pos2:Pos}(hc:X.calm=true) (he:PE X e te) (hgl:Gl X "list") (hml:X.mg "list"=none) (hgr:Gl X "reversed") (hmr:X.mg "reversed"=none) (h:nst e=true:=by rfl):
  PE X (.Call (.Name "list" p) [.Call (.Name "reversed" p2) [e] [] pos2] [] pos) (zEs X.K te):=zJ2 hc he hgl hml hgr hmr (zAm h) rfl
theorem qbm0 {T name id:_}{r:V->List V->Hp->VK->Prop}(pa:PlainAttrs T) (slot:Slot T name id) (hty:typeOf (.builtin id)=pure (.type "method_descriptor")) (hm:MtR X id r) (ho:PE X o to) (h:nba o=true:=by rfl) (hline:(apos.endLine == cpos.line)=true:=by rfl):
  PE X (.Call (.Attribute o name apos) [] [] cpos) (tBM0 X.K T r to):=zVk pa slot hty hm ho (zDt h) hline
theorem qpar {x y:Str}{px py pt pt2:Pos}{kt k2 i j:Nat}{ta:TA}(hc:X.calm=true) (hN:X.N.Nodup) (hi:X.N[i]?=some x) (hj:X.N[j]?=some y) (hij:i≠j)
  (hx:X.env.scope.names.lookup x=some .local) (hy:X.env.scope.names.lookup y=some .local) (ha:PA X [a,b] ta)
  (hw:swappedStores [.Tuple [.Name x px,.Name y py] kt pt] (.Tuple [a,b] k2 pt2) X.env=pure (some [x,y])):
  PS X (.Assign [.Tuple [.Name x px,.Name y py] kt pt] (.Tuple [a,b] k2 pt2) pos) (tPar i j ta):=zV4 hc hN hi hj hij hx hy ha hw zNq
end
end L2
namespace L2
open PySem PySem.Spec PyProof.Rows
structure SE (X:Cx) (e:Expr) (t:TE):Prop where h:PE X e t
structure ST (X:Cx) (e:Expr) (t:TT):Prop where h:PT X e t
structure SW (X:Cx) (e:Expr) (t:TT):Prop where h:PW X e t
structure SA (X:Cx) (es:List Expr) (t:TA):Prop where h:PA X es t
structure SS (X:Cx) (st:Stmt) (t:TS):Prop where h:PS X st t
structure SSs (X:Cx) (st:List Stmt) (t:TS):Prop where h:PSs X st t
structure SG (X:Cx) (e:Expr) (t:TG):Prop where h:PG X e t
structure SGs (X:Cx) (es:List Expr) (t:TGs):Prop where h:PGs X es t
structure SI (X:Cx) (tg e:Expr) (t:TI):Prop where h:PI X tg e t
structure SIfs (X:Cx) (es:List Expr) (t:TT):Prop where h:PIfs X es t
structure SO (X:Cx) (e:Option Expr) (t:TO):Prop where h:PO X e t
structure SPs (X:Cx) (pos:Pos) (ks:List (Option Expr)) (vs:List Expr) (t:List (TE × TE)):Prop where h:PPs X pos ks vs t
section
variable {X:Cx}{e o i a b c:Expr}{es:List Expr}{te ta tb tc to ti tv td ty:TE}{t:TA}{p pos cpos apos:Pos}{tA tB':TT}
theorem pv' (i:Nat) {x:Str}{pos:Pos}(hN:X.N[i]?=some x:=by rfl) (hv:Vis X.env.scope x:=by first|exact Or.inl rfl|exact Or.inr (Or.inl rfl)|exact Or.inr (Or.inr rfl)) (hd:(x == ("__debug__":Str))=false:=by decide)
  (hcd:(x == ("__classdict__":Str))=false:=by decide):SE X (.Name x pos) (tVar i):=⟨pv i hN hv hd hcd⟩
theorem zRy {i:Int}{j:Nat}:SE X (.Constant (.int i) j pos) (tC (.int i)):=⟨zVi⟩
theorem zVm {b:Bool}{j:Nat}:SE X (.Constant (.bool b) j pos) (tC (.bl b)):=⟨zYi⟩
theorem zL2 {x:Str}{j:Nat}:SE X (.Constant (.str x) j pos) (tC (.str x)):=⟨zVe⟩
theorem zOp {x:Str}{v:V}{u:Value}(hg:Gl X x) (hm:X.mg x=none) (hv:bootBuiltins x=some u) (r:RelV v u) (hn:x≠"__name__":=by decide) (hd:(x == ("__debug__":Str))=false:=by decide):SE X (.Name x pos) (tC v):=⟨zS2 hg hm hv r hn hd⟩
theorem zVf {op:Operator}{r:R2}(ho:OpR X (binaryOp op) r) (ha:SE X a ta) (hb:SE X b tb):SE X (.BinOp a op b pos) (tOp r ta tb):=⟨zYf ho ha.h hb.h⟩
theorem zVc {op:UnaryOp}{r:V->Hp->VK->Prop}(ho:UnR X (unaryOp op) r) (ha:SE X a ta):SE X (.UnaryOp op a pos) (tUn r ta):=⟨zYe ho ha.h⟩
theorem zS3 (ha:SE X a ta) (hb:SE X (.BoolOp .And (b::es) pos) tb):SE X (.BoolOp .And (a::b::es) pos) (zUl ta tb):=⟨zVn ha.h hb.h⟩
theorem zRw {op:BoolOp}(ha:SE X a ta):SE X (.BoolOp op [a] pos) ta:=⟨zVg ha.h⟩
theorem zRv {k:Nat}(h:SA X es t):SE X (.Tuple es k pos) (tTup t):=⟨zVd h.h⟩
theorem zRx (h:SA X es t):SE X (.List es pos) (tLst t):=⟨zVh h.h⟩
theorem zOm {keys:List (Option Expr)}{values:List Expr}{trs:List (TE × TE)}(h:SPs X pos keys values trs) (hall:keys.all (·.isSome)=true) (hl:keys.length=values.length) (h0:keys≠[]) (h15:keys.length<=15):SE X (.Dict keys values pos) (zUk trs):=⟨zRz h.h hall hl h0 h15⟩
theorem zO9:SPs X pos [] [] []:=⟨zRp⟩
theorem zKw {k v:Expr}{ks:List (Option Expr)}{vs:List Expr}{tk:TE}{trs:List (TE × TE)}(hk:SE X k tk) (hv:SE X v tv) (hr:SPs X pos ks vs trs):SPs X pos (some k::ks) (v::vs) ((tk,tv)::trs):=⟨zOa hk.h hv.h hr.h⟩
theorem zL3 {r:V->Option Int->Option Int->Hp->VK->Prop}{lo hi:Option Expr}{tl th:TO}{p2:Pos}(hr:SlR X r) (he:SE X e te) (hl:SO X lo tl) (hu:SO X hi th):SE X (.Subscript e (.Slice lo hi none p2) pos) (tSl r te tl th):=⟨zOk hr he.h hl.h hu.h⟩
theorem po_none':SO X none zK5:=⟨zRr⟩
theorem zOb (h:SE X e te):SO X (some e) (zUi te):=⟨zRq h.h⟩
theorem pa_nil':SA X [] tNil:=⟨zVo⟩
theorem qa' (ha:SE X e te) (hr:SA X es t) (h:nst e=true:=by rfl):SA X (e::es) (zR0 te t):=⟨qa ha.h hr.h h⟩
theorem qix' {r:R2}(hr:IxR X r) (ha:SE X a ta) (hb:SE X b tb) (h:nsl b=true:=by rfl):SE X (.Subscript a b pos) (tOp r ta tb):=⟨qix hr ha.h hb.h h⟩
theorem qcal' {x:Str}{k:Nat}{ps:List Str}{sp:Sp}(C:Cal X.prog X.w X.K X.mg X.base x k ps sp) (hr:Room k X.A) (hg:Gl X x) (ha:SA X (e::es) t) (hdb:(x == ("__debug__":Str))=false:=by decide)
  (h:(e::es).all nst=true:=by rfl):SE X (.Call (.Name x p) (e::es) [] pos) (zNn sp [] E0 t):=⟨qcal C hr hg ha.h hdb h⟩
theorem zRd {x:Str}{id:String}{r:List V->Hp->VK->Prop}(hc:zAx X (.builtin id) r) (hg:Gl X x) (hm:X.mg x=none) (hv:bootBuiltins x=some (.builtin id)) (ha:SA X (e::es) t) (hn:x≠"__name__":=by decide) (hdb:(x == ("__debug__":Str))=false:=by decide)
  (h:(e::es).all nst=true:=by rfl):SE X (.Call (.Name x p) (e::es) [] pos) (tCB r t):=⟨zUv hc hg hm hv ha.h hn hdb h⟩
theorem zKo {x:Str}{T:String}{r:List V->Hp->VK->Prop}(hc:zAx X (.type T) r) (hg:Gl X x) (hm:X.mg x=none) (hv:bootBuiltins x=some (.type T)) (ha:SA X (e::es) t) (hn:x≠"__name__":=by decide) (hdb:(x == ("__debug__":Str))=false:=by decide)
  (h:(e::es).all nst=true:=by rfl):SE X (.Call (.Name x p) (e::es) [] pos) (tCB r t):=⟨zUu hc hg hm hv ha.h hn hdb h⟩
theorem qlistrev' {p2 pos2:Pos}(hc:X.calm=true) (he:SE X e te) (hgl:Gl X "list") (hml:X.mg "list"=none) (hgr:Gl X "reversed") (hmr:X.mg "reversed"=none) (h:nst e=true:=by rfl):
  SE X (.Call (.Name "list" p) [.Call (.Name "reversed" p2) [e] [] pos2] [] pos) (zEs X.K te):=⟨qlistrev hc he.h hgl hml hgr hmr h⟩
theorem qbm0' {T name id:_}{r:V->List V->Hp->VK->Prop}(pa:PlainAttrs T) (slot:Slot T name id) (hty:typeOf (.builtin id)=pure (.type "method_descriptor")) (hm:MtR X id r) (ho:SE X o to) (h:nba o=true:=by rfl) (hline:(apos.endLine == cpos.line)=true:=by rfl):
  SE X (.Call (.Attribute o name apos) [] [] cpos) (tBM0 X.K T r to):=⟨qbm0 pa slot hty hm ho.h h hline⟩
theorem zIt {env:Env}{pos:Pos}:∀{es:List Expr},es.all nst=true->(backTo pos (starEach es env)).all (fun x=>!x.1)=true
 | [],_=>rfl
 | e::es,h=>by
  simp only[vV,xt]at h
  rw[zAm h.1]
  show(true && (backTo pos (starEach es env)).all (fun x=>!x.1))=true
  rw[zIt h.2];rfl
theorem zVl {T name id:_}{r:V->List V->Hp->VK->Prop}(pa:PlainAttrs T) (slot:Slot T name id) (hty:typeOf (.builtin id)=pure (.type "method_descriptor")) (hm:MtR X id r) (ho:SE X o to) (ha:SA X (e::es) t) (h:nba o=true:=by rfl) (hs:(e::es).all nst=true:=by rfl)
  (hlen:decide ((e::es).length+0+0<30)=true:=by rfl) (hline:(apos.endLine == cpos.line)=true:=by rfl):SE X (.Call (.Attribute o name apos) (e::es) [] cpos) (tBM X.K T r to t):=by
 have hs':=hs
 simp only[vV,xt]at hs'
 refine⟨zYh pa slot hty hm ho.h ha.h (zDt h) ?_ hline (zAm hs'.1) (zDu hs'.2)⟩
 rw[zIt hs]
 exact hlen
theorem zOn {op:CmpOp}{r:R2}(ho:OpR X (compareOp op) r) (ha:SE X a ta) (hb:SE X b tb) (hm:behindInMarks op b=false):SE X (.Compare a [op] [b] pos) (tOp r ta tb):=⟨zS0 ho ha.h hb.h hm⟩
theorem zO5 {op:CmpOp}{r:R2}(ho:OpR X (compareOp op) r) (ha:SE X a ta) (hb:SE X b tb) (hm:behindInMarks op b=false):ST X (.Compare a [op] [b] pos) (zUh (tOp r ta tb)):=⟨zRj ho ha.h hb.h hm⟩
theorem zRi (ha:ST X a tA):ST X (.UnaryOp .Not a pos) (tNot tA):=⟨zV1 ha.h⟩
theorem zO1 (ha:ST X a tA):SW X (.BoolOp .And [a] pos) tA:=⟨zRf ha.h⟩
theorem zRe (ha:ST X a tA):SW X (.BoolOp .Or [a] pos) tA:=⟨zUx ha.h⟩
theorem zRg (ha:ST X a tA) (hb:SW X (.BoolOp .And (b::es) pos) tB'):SW X (.BoolOp .And (a::b::es) pos) (tAnd tA tB'):=⟨zUz ha.h hb.h⟩
theorem zUy (ha:ST X a tA) (hb:SW X (.BoolOp .Or (b::es) pos) tB'):SW X (.BoolOp .Or (a::b::es) pos) (tOr tA tB'):=⟨zYb ha.h hb.h⟩
theorem zUw (h:SW X e tA):ST X e tA:=⟨h.h.pt⟩
noncomputable def tTru (K:PySem.W.Frag) (te:TE):TT:=fun σ H Q=>te σ H fun x H1=>∃k,TruV K x H1 k/\Q k H1
theorem qtruth' (ha:SE X e te) (h:ntt e=true:=by rfl):ST X e (tTru X.K te):=⟨qtruth ha.h h⟩
theorem qrange1' {tg:Expr}{ta:TA}(hg:Gl X "range") (hm:X.mg "range"=none) (ha:SA X [a] ta) (h:nst a=true:=by rfl):SI X tg (.Call (.Name "range" p) [a] [] pos) (zSz ta):=⟨qrange1 hg hm ha.h h⟩
theorem zOi {j:Nat}{x:Str}(hN:X.N.Nodup) (hi:X.N[j]?=some x) (hx:Loc X.env.scope x) (hf:X.fn x=true\/X.env.scope.names.lookup x=some .local:=by first|exact .inl rfl|exact .inr rfl|assumption):SG X (.Name x pos) (gName j):=⟨zRu hN hi hx hf⟩
theorem pgs_nil':SGs X [] gNil:=⟨zRs⟩
theorem qgs' {tg:Expr}{ts:List Expr}{g:TG}{gs:TGs}(h1:SG X tg g) (h2:SGs X ts gs) (h:nst tg=true:=by rfl):SGs X (tg::ts) (zT2 g gs):=⟨qgs h1.h h2.h h⟩
theorem qtup' {ts:List Expr}{k n:Nat}{gs:TGs}(hc:X.calm=true) (h:SGs X ts gs) (hn:ts.length=n:=by rfl) (h1:ts.all nst=true:=by rfl):SG X (.Tuple ts k pos) (gTup X.K n gs):=⟨qtup hc h.h hn h1⟩
theorem qunl' {ts:List Expr}{k n:Nat}{gs:TGs}(hc:X.calm=true) (h:SGs X ts gs) (hn:ts.length=n:=by rfl) (h1:ts.all nst=true:=by rfl):SG X (.Tuple ts k pos) (gLst X.K n gs):=⟨qunl hc h.h hn h1⟩
theorem zRt {ts:TSet}(ho:SE X o to) (hi:SE X i ti) (hs:PSet X ts) (h:nsl i=true:=by rfl):SG X (.Subscript o i pos) (gSub to ti ts):=by
 refine⟨zVa ho.h hi.h hs fun v=>?_⟩
 cases i <;> first|rfl|cases h
theorem pifs_nil':SIfs X [] tYes:=⟨zOe⟩
theorem zKy (hc:ST X c tA):SIfs X [c] tA:=⟨zOd hc.h⟩
theorem qlcomp' {own fre:List Str}{ix:List Nat}{scope:Scope}{tg elt iter:Expr}{ifs:List Expr}{wi:TI}{g:TG}{tt:TT}(hc:X.calm=true) (S:CompScope X own fre ix scope) (hi:SI X tg iter wi)
  (hg:∀cl C s H fp,SG (zA4 X (own++fre) scope cl C s H fp) tg g) (ht:∀cl C s H fp,SIfs (zA4 X (own++fre) scope cl C s H fp) ifs tt) (he:∀cl C s H fp,SE (zA4 X (own++fre) scope cl C s H fp) elt te)
  (h:nse iter=true:=by rfl):SE X (.ListComp elt [⟨tg,iter,ifs,0⟩] scope pos) (zGx own ix wi g tt te):=⟨qlcomp hc S hi.h (fun _ _ _ _ _=>(hg _ _ _ _ _).h) (fun _ _ _ _ _=>(ht _ _ _ _ _).h) (fun _ _ _ _ _=>(he _ _ _ _ _).h) h⟩
theorem qsetc' {own fre:List Str}{ix:List Nat}{scope:Scope}{j:Nat}{x:Str}{pos':Pos}{tg elt iter:Expr}{ifs:List Expr}{wi:TI}{g:TG}{tt:TT}(hN:X.N.Nodup) (hix:X.N[j]?=some x) (hx:Loc X.env.scope x)
  (hc:X.calm=true) (S:CompScope X own fre ix scope) (hi:SI X tg iter wi)
  (hg:∀cl C s H fp,SG (zA4 X (own++fre) scope cl C s H fp) tg g) (ht:∀cl C s H fp,SIfs (zA4 X (own++fre) scope cl C s H fp) ifs tt) (he:∀cl C s H fp,SE (zA4 X (own++fre) scope cl C s H fp) elt te)
  (hsw:swapsWith (.ListComp elt [⟨tg,iter,ifs,0⟩] scope cpos) (some (.Name x pos')) pos.line X.env=pure true:=by rfl) (h:nse iter=true:=by rfl) (hf:X.fn x=true\/X.env.scope.names.lookup x=some .local:=by first|exact .inl rfl|exact .inr rfl|assumption):
  SS X (.Assign [.Name x pos'] (.ListComp elt [⟨tg,iter,ifs,0⟩] scope cpos) pos) (tAsg (zGx own ix wi g tt te) (gName j)):=⟨qsetc hN hix hx hc S hi.h (fun _ _ _ _ _=>(hg _ _ _ _ _).h) (fun _ _ _ _ _=>(ht _ _ _ _ _).h) (fun _ _ _ _ _=>(he _ _ _ _ _).h) hsw h hf⟩
theorem qset' {j:Nat}{x:Str}{pos':Pos}(hN:X.N.Nodup) (hi:X.N[j]?=some x) (hx:Loc X.env.scope x) (he:SE X e te) (hf:X.fn x=true\/X.env.scope.names.lookup x=some .local:=by first|exact .inl rfl|exact .inr rfl|assumption) (h:nco e=true:=by rfl):
  SS X (.Assign [.Name x pos'] e pos) (tAsg te (gName j)):=⟨qset hN hi hx he.h hf h⟩
theorem qasgs' {g:TG}{sp2:Pos}(he:SE X e te) (hg:SG X (.Subscript o i sp2) g) (h2:nco e=true:=by rfl):SS X (.Assign [.Subscript o i sp2] e pos) (tAsg te g):=⟨zV7 he.h hg.h (zR1 h2) (by cases e <;> rfl) rfl⟩
theorem qpar' {x y:Str}{px py pt pt2:Pos}{kt k2 i j:Nat}{ta:TA}(hc:X.calm=true) (hN:X.N.Nodup) (hi:X.N[i]?=some x) (hj:X.N[j]?=some y) (hij:i≠j)
  (hx:X.env.scope.names.lookup x=some .local) (hy:X.env.scope.names.lookup y=some .local) (ha:SA X [a,b] ta)
  (hw:swappedStores [.Tuple [.Name x px,.Name y py] kt pt] (.Tuple [a,b] k2 pt2) X.env=pure (some [x,y])):
  SS X (.Assign [.Tuple [.Name x px,.Name y py] kt pt] (.Tuple [a,b] k2 pt2) pos) (tPar i j ta):=⟨qpar hc hN hi hj hij hx hy ha.h hw⟩
theorem zRn (he:SE X e te):SS X (.Return (some e) pos) (tRet te):=⟨zV3 he.h⟩
theorem zV5 {ba bb:List Stmt}{t u:TS}(hc:ST X c tA) (ha:SSs X ba t) (hb:SSs X bb u):SS X (.If c ba bb pos) (tIfS tA t u):=⟨zYc hc.h ha.h hb.h⟩
theorem zKu {body:List Stmt}{t:TS}(hp:PassesOwn (model X.prog X.w) X.A X.env X.xe) (hc:ST X c tA) (hb:SSs X body t):SS X (.While c body [] pos) (zPv tA t):=⟨zO8 hp hc.h hb.h⟩
theorem qfor' {tg iter:Expr}{body:List Stmt}{wi:TI}{g:TG}{t:TS}(hp:PassesOwn (model X.prog X.w) X.A X.env X.xe) (hc:X.calm=true) (hi:SI X tg iter wi) (hg:SG X tg g) (hb:SSs X body t) (h:nse iter=true:=by rfl):
  SS X (.For tg iter body [] pos) (tFor wi g t):=⟨qfor hp hc hi.h hg.h hb.h h⟩
theorem qexpr' (he:SE X e te) (h:nco e=true:=by rfl):SS X (.Expr e pos) (zQz te):=⟨qexpr he.h h⟩
theorem pss_nil':SSs X [] zUj:=⟨zRl⟩
theorem zO6 {st:Stmt}{t:TS}(h:SS X st t):SSs X [st] t:=⟨zRk h.h⟩
theorem zKt {st:Stmt}{r:List Stmt}{t u:TS}(h1:SS X st t) (h2:SSs X r u):SSs X (st::r) (tSeq t u):=⟨zO7 h1.h h2.h⟩
end
end L2
namespace L2
open PySem PySem.Spec PyProof.Rows
noncomputable def BN (n:Nat) (x:Int):Prop:=x.natAbs<2 ^ n
theorem BN.bits {x:Int}(h:BN 5000 x):Builtin.Int.intBits x<=2 ^ 20:=by
 unfold Builtin.Int.intBits
 split
 ·exact vg _
 ·rename_i hx
  have h0:x.natAbs≠0:=by
   intro z
   apply hx
   have:x=0:=by nofun
   rw[this];rfl
  have:=(Nat.log2_lt h0).mpr h
  lia
theorem BN.log {x:Int}(h:BN 5000 x):x.natAbs.log2<9000:=by
 by_cases h0:x.natAbs=0
 ·rw[h0];decide +kernel
 ·have:=(Nat.log2_lt h0).mpr h
  lia
section
variable {X:Cx}
theorem zSb:OpR X (binaryOp .Mult) (rI (fun i j=>BN 5000 i/\BN 5000 j) fun i j=>.int (i*j)):=opI fun _ _ _ _ _ _ _ hc q=>mul_int q (IntMulOk.of_bits hc.1.bits hc.2.bits)
theorem zOq:OpR X (binaryOp .FloorDiv) (rI (fun _ j=>j≠0/\BN 5000 j) fun i j=>.int (i.fdiv j)):=opI fun _ _ _ _ _ _ _ hc q=>floordiv_int hc.1 q (.inl (PyProof.noPylong_of_log2 hc.2.log))
end
noncomputable def dv (u l:Int):Int:=if l<0 then -(Int.gcd u l:Int)else(Int.gcd u l:Int)
end L2
namespace L2
open PySem PySem.Spec PyProof.Rows
section
variable {X:Cx}{pins:List (Addr × Obj)}{σ:St}{H:Hp}{s:Shared}{h':Heap}
theorem Inv.turnedT {t':Nat}{fp:List Addr}{T:Addr}{o:HO}(I:Inv X pins σ H s) (hf:∀b∈fp,FpOk X pins H b) (k:∀b o,b ∉ fp->s.heap.get? b=some o->h'.get? b=some o) (hT:s.heap.objs.size<=T)
  (new:ObjOk X.prog X.w (upd H T o) h' T o):Inv X pins σ (upd H T o) { s with heap:=h',toks:=t' }:=by
 have hn:=I.hok.fresh hT
 have nit:∀b u,H b=some u->b ∉ fp:=fun b u e z=>by rw[(hf b z).1]at e;cases e
 refine I.step (fun b hb=>⟨(hf b hb).2.2.2.1,(hf b hb).2.1,(hf b hb).2.2.2.2.1,(hf b hb).2.2.2.2.2⟩) (fun b o _ _ hc e _=>k b o hc e) (fun b o _ _ hc e _=>⟨o.slots,k b o hc e⟩)
  (fun b u _ q n=>by rw[zA7 (xr (xE (xl q) hT))];exact n)
  (fun b o hc e=>⟨o,k b o hc e⟩) (fun b xs q=>by rw[zA7 (zA3 q hn)];exact q) (fun b u xs q=>by rw[zA7 (zA3 q hn)];exact q) (fun b ps q=>⟨#[],by rw[zA7 (zA3 q hn),q];simp⟩) (fun m hm=>?_) (fun b u e=>?_) I.bare
 ·obtain⟨o,es,ep,ho,r⟩:=hm
  exact⟨o,es,ep,k _ o (fun z=>(hf _ z).2.1 rfl) ho,r⟩
 ·by_cases hb:b=T
  ·subst hb;rw[zAd]at e;cases e;exact new
  ·rw[zA7 hb]at e
   refine(I.hok b u e).stay (fun c v hc q=>k c v ?_ q) (fun c q=>by rw[zA7 (zA3 q hn)];exact q) fun c xs q=>by rw[zA7 (zA3 q hn)];exact q
   rcases hc with z|z
   ·rw[z];exact nit b u e
   ·exact nit c _ z
theorem Inv.turnedL {t':Nat}{fp:List Addr}(I:Inv X pins σ H s) (hf:∀b∈fp,FpOk X pins H b) (k:∀b o,b ∉ fp->s.heap.get? b=some o->h'.get? b=some o):Inv X pins σ H { s with heap:=h',toks:=t' }:=by
 have nit:∀b u,H b=some u->b ∉ fp:=fun b u e z=>by rw[(hf b z).1]at e;cases e
 refine I.step (fun b hb=>⟨(hf b hb).2.2.2.1,(hf b hb).2.1,(hf b hb).2.2.2.2.1,(hf b hb).2.2.2.2.2⟩) (fun b o _ _ hc e _=>k b o hc e) (fun b o _ _ hc e _=>⟨o.slots,k b o hc e⟩)
  (fun _ _ _ _ n=>n) (fun b o hc e=>⟨o,k b o hc e⟩) (fun _ _ e=>e) (fun _ _ _ e=>e) (fun b ps e=>⟨#[],by rw[e];simp⟩) (fun m hm=>?_) (fun b u e=>?_) I.bare
 ·obtain⟨o,es,ep,ho,r⟩:=hm
  exact⟨o,es,ep,k _ o (fun z=>(hf _ z).2.1 rfl) ho,r⟩
 ·refine(I.hok b u e).stay (fun c v hc q=>k c v ?_ q) (fun _ q=>q) fun _ _ q=>q
  rcases hc with z|z
  ·rw[z];exact nit b u e
  ·exact nit c _ z
end
structure ZipOwn (z TI TO i1 i2:Addr):Prop where
 TIz:TI≠z
 TOz:TO≠z
 i1z:i1≠z
 i2z:i2≠z
 TITO:TI≠TO
 TIi1:TI≠i1
 TIi2:TI≠i2
 TOi1:TO≠i1
 TOi2:TO≠i2
 i12:i1≠i2
theorem ZipOwn.apart {z TI TO i1 i2 a b:Addr}(D:ZipOwn z TI TO i1 i2) (ha:a ∉ [z,TI,TO,i1,i2]) (hb:b ∉ [z,TI,TO,i1,i2]):ZipApart z TI TO i1 i2 a b:=by
 simp only[xn,vN,or_false,not_or]at ha hb
 obtain⟨a1,a2,a3,a4,a5⟩:=ha
 obtain⟨b1,b2,b3,b4,b5⟩:=hb
 exact⟨D.TIz,D.TOz,D.i1z,D.i2z,D.TITO,D.TIi1,D.TIi2,D.TOi1,D.TOi2,D.i12,a1,a3,a4,a5,b1,b3,b4,b5⟩
end L2
namespace TB
open PySem
noncomputable abbrev Up (l:List Nat):Prop:=l.Pairwise (·<·)
theorem zE3 {l:List Nat}(h:Up l) {i j:Nat}(hij:i<j) (hj:j<l.length):l[i]'(vS hij hj)<l[j]:=ye.mp h i j _ hj hij
theorem zGu:∀(l:List Nat) (a b:Nat),Up l->(∀e,a<=e->e<b->e∈l)->b-a<=l.length
 | [],a,b,_,h=>by
  by_cases c:a<b
  ·exact absurd (h a (xi _) c) (by simp)
  ·simp;lia
 | x::xs,a,b,u,h=>by
  have ux:=vD.mp u
  by_cases c:a<b
  ·have ha:=h a (xi _) c
   rcases uW a x with q|q|q
   ·rcases xn.mp ha with z|z
    ·lia
    ·exact absurd (ux.1 a z) (by nofun)
   ·subst q
    have r:=zGu xs (a+1) b ux.2 fun e h1 h2=>by
     rcases xn.mp (h e (by nofun) h2)with z|z
     ·lia
     ·exact z
    simp only[xH];lia
   ·have r:=zGu xs a b ux.2 fun e h1 h2=>by
     rcases xn.mp (h e h1 h2)with z|z
     ·lia
     ·exact z
    simp only[xH];lia
  ·lia
theorem zUc {l:List Nat}{m:Nat}(u:Up l) (h:l.length<=m):∃e,e<=m/\e ∉ l:=by
 refine Classical.byContradiction fun n=>?_
 have r:=zGu l 0 (m+1) u fun e _ h2=>Classical.byContradiction fun q=>n ⟨e,by nofun,q⟩
 lia
theorem zFo {xs:Array Nat}{j:Nat}(u:Up xs.toList):∀(f lo hi:Nat),hi-lo<=f->lo<=hi->hi<=xs.size->(∀i (q:i<xs.size),i<lo->xs[i]<j)->(∀i (q:i<xs.size),hi<=i->j<=xs[i])->
  (SetTable.below.go xs j f lo hi<=xs.size/\(∀i (q:i<xs.size),i<SetTable.below.go xs j f lo hi->xs[i]<j)/\(∀i (q:i<xs.size),SetTable.below.go xs j f lo hi<=i->j<=xs[i]))
 | 0,lo,hi,h1,h2,h3,h4,h5=>by
  have e:lo=hi:=by nofun
  subst e
  exact⟨h3,h4,h5⟩
 | f+1,lo,hi,h1,h2,h3,h4,h5=>by
  unfold SetTable.below.go
  by_cases c:lo<hi
  ·rw[xg c]
   have hm:(lo+hi) / 2<hi:=by nofun
   have hl:lo<=(lo+hi) / 2:=by nofun
   have hz:(lo+hi) / 2<xs.size:=by nofun
   have eg:xs.getD ((lo+hi) / 2) j=xs[(lo+hi) / 2]:=by simp[Array.getD,hz]
   dsimp only
   rw[eg]
   have rise:∀i k (q:i<xs.size) (r:k<xs.size),i<k->xs[i]<xs[k]:=fun i k q r hik=>by
    have:=zE3 u hik (by simpa using r)
    simpa using this
   by_cases d:xs[(lo+hi) / 2]<j
   ·rw[xg d]
    refine zFo u f _ hi (by nofun) (by nofun) h3 (fun i q hi'=>?_) h5
    rcases vj i ((lo+hi) / 2)with z|z
    ·exact vS (rise _ _ q hz z) d
    ·have:i=(lo+hi) / 2:=by nofun
     subst this;exact d
   ·rw[xh d]
    refine zFo u f lo _ (by nofun) hl (by nofun) h4 (fun i q hi'=>?_)
    rcases vj ((lo+hi) / 2) i with z|z
    ·have:=rise _ _ hz q z;lia
    ·have:i=(lo+hi) / 2:=by nofun
     subst this;lia
  ·rw[xh c]
   have e:lo=hi:=by nofun
   subst e
   exact⟨h3,h4,h5⟩
theorem zFn {xs:Array Nat}(j:Nat) (u:Up xs.toList):SetTable.below xs j<=xs.size/\(∀i (q:i<xs.size),i<SetTable.below xs j->xs[i]<j)/\(∀i (q:i<xs.size),SetTable.below xs j<=i->j<=xs[i]):=
 zFo u xs.size 0 xs.size (by nofun) (by nofun) (xi _) (fun i q h=>by nofun) (fun i q h=>by nofun)
theorem zPp {xs:Array Nat}{j k:Nat}(u:Up xs.toList) (hk:k<=xs.size) (h1:∀i (q:i<xs.size),i<k->xs[i]<j) (h2:∀i (q:i<xs.size),k<=i->j<=xs[i]):SetTable.below xs j=k:=by
 obtain⟨a,b,c⟩:=zFn j u
 rcases uW (SetTable.below xs j) k with z|z|z
 ·have p:=h1 _ (by nofun) z;have q:=c _ (by nofun) (xi _);lia
 ·exact z
 ·have p:=h2 k (by nofun) (xi _);have q:=b k (by nofun) z;lia
noncomputable def slotAt (xs:Array Nat) (k:Nat):Nat:=if k=0 then 0 else xs.getD (k-1) 0+1
theorem zGn {xs:Array Nat}{k:Nat}(u:Up xs.toList) (hk:k<=xs.size):SetTable.below xs (slotAt xs k)=k:=by
 have rise:∀i k (q:i<xs.size) (r:k<xs.size),i<k->xs[i]<xs[k]:=fun i k q r hik=>by
  have:=zE3 u hik (by simpa using r)
  simpa using this
 refine zPp u hk (fun i q h=>?_) (fun i q h=>?_)
 ·unfold slotAt
  rw[xh (by nofun)]
  have hz:k-1<xs.size:=by nofun
  have:xs.getD (k-1) 0=xs[k-1]:=by simp[Array.getD,hz]
  rw[this]
  rcases vj i (k-1)with z|z
  ·have:=rise _ _ q hz z;lia
  ·have:i=k-1:=by nofun
   subst this;lia
 ·unfold slotAt
  by_cases c:k=0
  ·rw[xg c];lia
  ·rw[xh c]
   have hz:k-1<xs.size:=by nofun
   have:xs.getD (k-1) 0=xs[k-1]:=by simp[Array.getD,hz]
   rw[this]
   have:=rise _ _ hz q (by nofun);lia
theorem zD6 {α:Type}(xs:Array α) (p:Nat) (x:α):(SetTable.insertAt xs p x).toList=xs.toList.take p++x::xs.toList.drop p:=by
 unfold SetTable.insertAt
 simp[uX]
 exact uc (by simp)
theorem ins_perm {α:Type}(xs:Array α) (p:Nat) (x:α):(SetTable.insertAt xs p x).toList.Perm (x::xs.toList):=by
 rw[zD6]
 exact uY.trans (by rw[vA])
theorem zFd {α:Type}(xs:Array α) (p:Nat) (x:α):(SetTable.insertAt xs p x).size=xs.size+1:=by
 have:=(ins_perm xs p x).length_eq
 simpa using this
theorem ins_up {xs:Array Nat}{j:Nat}(u:Up xs.toList) (h:xs[SetTable.below xs j]?≠some j):Up (SetTable.insertAt xs (SetTable.below xs j) j).toList:=by
 obtain⟨a,b,c⟩:=zFn j u
 rw[zD6]
 have h1:∀v∈xs.toList.take (SetTable.below xs j),v<j:=fun v hv=>by
  obtain⟨i,hi,rfl⟩:=vM.mp hv
  rw[vo]at hi
  rw[List.getElem_take]
  have:=b i (by simp at hi;lia) (by nofun)
  simpa using this
 have h2:∀v∈xs.toList.drop (SetTable.below xs j),j<v:=fun v hv=>by
  obtain⟨i,hi,rfl⟩:=vM.mp hv
  rw[ua]at hi
  rw[List.getElem_drop]
  have hz:SetTable.below xs j+i<xs.size:=by simp at hi;lia
  have h3:=c _ hz (by nofun)
  have h4:xs[SetTable.below xs j]'(by nofun)≠j:=fun e=>h (by rw[xT (by nofun),e])
  have h5:=c (SetTable.below xs j) (by nofun) (xi _)
  have h6:xs[SetTable.below xs j]'(by nofun)<=xs[SetTable.below xs j+i]:=by
   rcases Nat.eq_zero_or_pos i with z|z
   ·subst z;exact xi _
   ·have:=zE3 u (i:=SetTable.below xs j) (j:=SetTable.below xs j+i) (by nofun) (by simpa using hz)
    exact xN (by simpa using this)
  simp only[Array.getElem_toList]
  lia
 refine List.pairwise_append.mpr ⟨u.sublist (uj _ _),vD.mpr ⟨fun v hv=>h2 v hv,u.sublist (uG _ _)⟩,fun p hp q hq=>?_⟩
 rcases xn.mp hq with rfl|hq
 ·exact h1 p hp
 ·exact vS (h1 p hp) (h2 q hq)
noncomputable def orb (m:Nat):Nat->Nat × Nat->Nat × Nat
 | 0,x=>x
 | L+1,x=>orb m L (SetTable.leap m x.1 x.2)
noncomputable def gs (m:Nat):Nat->Nat->Nat
 | 0,i=>i
 | k+1,i=>gs m k ((i*5+1) % (m+1))
theorem zId (m:Nat):∀(a b i:Nat),gs m (a+b) i=gs m b (gs m a i)
 | 0,b,i=>by rw[vO];rfl
 | a+1,b,i=>by rw[show a+1+b=(a+b)+1 by nofun];exact zId m a b _
noncomputable def Msk (m:Nat):Prop:=m∈[7,15,31,63,127,255,511,1023,2047,4095]
noncomputable def gsB (m:Nat):Nat->Nat->Nat->Nat
 | 0,_,a=>a
 | k+1,i,a=>gsB m k ((i*5+1) % (m+1)) (a ||| 2 ^ i)
theorem zQh (m:Nat):∀(n i a e:Nat),(gsB m n i a).testBit e=true->a.testBit e=true\/∃k,k<n/\gs m k i=e
 | 0,i,a,e,h=>.inl h
 | n+1,i,a,e,h=>by
  rcases zQh m n _ _ e h with z|⟨k,hk,z⟩
  ·rw[Nat.testBit_or,Bool.or_eq_true]at z
   rcases z with z|z
   ·exact .inl z
   ·rw[Nat.testBit_two_pow]at z
    exact .inr ⟨0,by nofun,of_decide_eq_true z⟩
  ·exact .inr ⟨k+1,by nofun,z⟩
theorem zWl {m:Nat}(h:Msk m):gs m (m+1) 0=0/\∀e,e<m+1->∃k,k<m+1/\gs m k 0=e:=by
 have t:∀(M:Nat),(gs M (M+1) 0 == 0 && gsB M (M+1) 0 0 == 2 ^ (M+1)-1)=true->gs M (M+1) 0=0/\∀e,e<M+1->∃k,k<M+1/\gs M k 0=e:=fun M hh=>by
  rw[xt]at hh
  refine⟨by simpa using hh.1,fun e he=>?_⟩
  have hb:gsB M (M+1) 0 0=2 ^ (M+1)-1:=by simpa using hh.2
  rcases zQh M (M+1) 0 0 e (by rw[hb,Nat.testBit_two_pow_sub_one];exact xB he)with z|z
  ·rw[Nat.zero_testBit]at z;cases z
  ·exact z
 have al:∀m∈[7,15,31,63,127,255,511,1023,2047,4095],(gs m (m+1) 0 == 0 && gsB m (m+1) 0 0 == 2 ^ (m+1)-1)=true:=by decide +kernel
 exact t m (al m h)
theorem zWk {m i e:Nat}(h:Msk m) (hi:i<m+1) (he:e<m+1):∃k,k<=m/\gs m k i=e:=by
 obtain⟨z,al⟩:=zWl h
 obtain⟨a,ha,rfl⟩:=al i hi
 obtain⟨b,hb,rfl⟩:=al e he
 rcases vj b a with c|c
 ·refine⟨m+1-a+b,by nofun,?_⟩
  rw[<- zId,show a+(m+1-a+b)=(m+1)+b by nofun,zId,z]
 ·exact⟨b-a,by nofun,by rw[<- zId,show a+(b-a)=b by nofun]⟩
theorem zL7 (m:Nat):∀(a b:Nat) (x:Nat × Nat),orb m (a+b) x=orb m b (orb m a x)
 | 0,b,x=>by rw[vO];rfl
 | a+1,b,x=>by rw[show a+1+b=(a+b)+1 by nofun];exact zL7 m a b _
theorem zL6 (m:Nat):∀(L:Nat) (x:Nat × Nat),(orb m L x).2=x.2 / 32 ^ L
 | 0,x=>by simp[orb]
 | L+1,x=>by
  show(orb m L _).2=_
  rw[zL6 m L]
  show x.2 / 32 / 32 ^ L=_
  rw[Nat.div_div_eq_div_mul,Nat.pow_succ,Nat.mul_comm]
theorem zQ3 {m:Nat}:∀(L:Nat) (x:Nat × Nat),x.1<m+1->(orb m L x).1<m+1
 | 0,x,h=>h
 | L+1,x,h=>zQ3 L _ (Nat.mod_lt _ (by nofun))
theorem zQ4 (m:Nat):∀(k:Nat) (x:Nat × Nat),x.2=0->(orb m k x).1=gs m k x.1
 | 0,x,h=>rfl
 | k+1,x,h=>by
  show(orb m k (SetTable.leap m x.1 x.2)).1=gs m k _
  rw[zQ4 m k _ (by show x.2 / 32=0;rw[h])]
  show gs m k ((x.1*5+1+x.2 / 32) % (m+1))=_
  rw[h]
theorem zH1 {m i p e:Nat}(h:Msk m) (hi:i<m+1) (hp:p<2 ^ 64) (he:e<m+1):∃L,L<=13+m/\(orb m L (i,p)).1=e:=by
 obtain⟨k,hk,ek⟩:=zWk h (zQ3 13 (i,p) hi) he
 have h0:(orb m 13 (i,p)).2=0:=by rw[zL6];exact Nat.div_eq_of_lt (vS hp (by decide))
 exact⟨13+k,by nofun,by rw[zL7,zQ4 m k _ h0,ek]⟩
end TB
namespace TB
open PySem
noncomputable def adv (t:SetTable):Nat->SetTable.Probe->SetTable.Probe
 | 0,p=>p
 | m+1,p=>adv t m (t.advance p)
theorem zAw (t:SetTable):∀(a b:Nat) (p:SetTable.Probe),adv t (a+b) p=adv t b (adv t a p)
 | 0,b,p=>by rw[vO];rfl
 | a+1,b,p=>by rw[show a+1+b=(a+b)+1 by nofun];exact zAw t a b _
theorem zGr (t:SetTable):∀(m:Nat) (p:SetTable.Probe),(adv t m p).dummy=p.dummy
 | 0,p=>rfl
 | m+1,p=>by
  show(adv t m (t.advance p)).dummy=_
  rw[zGr t m]
  unfold SetTable.advance
  split <;> rfl
noncomputable def beg (t:SetTable) (x:Nat × Nat) (d:Option Nat):SetTable.Probe:={ j:=x.1,more:=SetTable.runEnd t.mask x.1-x.1,i:=x.1,perturb:=x.2,dummy:=d }
theorem zFq (t:SetTable):∀(c:Nat) (p:SetTable.Probe),p.more=c->adv t (c+1) p=beg t (SetTable.leap t.mask p.i p.perturb) p.dummy
 | 0,p,h=>by
  show t.advance p=_
  unfold SetTable.advance
  rw[xh (by nofun)]
  rfl
 | c+1,p,h=>by
  show adv t (c+1) (t.advance p)=_
  have e:t.advance p={ p with j:=p.j+1,more:=p.more-1 }:=by
   unfold SetTable.advance
   rw[xg (by nofun)]
  rw[e]
  exact zFq t c _ (by show p.more-1=c;lia)
theorem zU6 (t:SetTable) (x:Nat × Nat) (d:Option Nat):∃c,1<=c/\c<=10/\adv t c (beg t x d)=beg t (SetTable.leap t.mask x.1 x.2) d:=by
 refine⟨SetTable.runEnd t.mask x.1-x.1+1,by nofun,?_,zFq t _ (beg t x d) rfl⟩
 unfold SetTable.runEnd
 split <;> lia
theorem zNd (t:SetTable) (d:Option Nat):∀(L:Nat) (x:Nat × Nat),∃c,c<=10*L/\adv t c (beg t x d)=beg t (orb t.mask L x) d
 | 0,x=>⟨0,by nofun,rfl⟩
 | L+1,x=>by
  obtain⟨c,_,h1,e1⟩:=zU6 t x d
  obtain⟨c',h2,e2⟩:=zNd t d L (SetTable.leap t.mask x.1 x.2)
  refine⟨c+c',by nofun,?_⟩
  rw[zAw,e1,e2]
  rfl
theorem zHm (h:Int):SetTable.bits h<2 ^ 64:=by
 unfold SetTable.bits
 have:=ur h (show(0:Int)<2 ^ 64 by decide)
 have:=uu h (show(2 ^ 64:Int)≠0 by decide)
 lia
theorem zFy {t:SetTable}{h:Int}{e:Nat}(hm:Msk t.mask) (he:e<=t.mask):∃c,c<10*SetTable.turns t.mask/\(adv t c (t.probeStart h)).j=e:=by
 obtain⟨L,hL,eL⟩:=zH1 hm (Nat.mod_lt _ (by nofun)) (zHm h) (show e<t.mask+1 by nofun)
 obtain⟨c,hc,ec⟩:=zNd t none L (SetTable.bits h % (t.mask+1),SetTable.bits h)
 refine⟨c,by unfold SetTable.turns;lia,?_⟩
 have e0:t.probeStart h=beg t (SetTable.bits h % (t.mask+1),SetTable.bits h) none:=rfl
 rw[e0,ec]
 exact eL
noncomputable def Far (t:SetTable) (p:SetTable.Probe) (m:Nat):Prop:=t.slot (adv t m p).j=.empty/\p.dummy=none
theorem zBp {t:SetTable}(hd:t.dummies=#[]) (j:Nat):t.slot j=(if t.place[SetTable.below t.place j]? == some j then .live (SetTable.below t.place j)else .empty):=by
 have e:SetTable.has t.dummies j=false:=by rw[hd];rfl
 unfold SetTable.slot
 simp only[e]
 simp
theorem zCn {t:SetTable}(hd:t.dummies=#[]) {j:Nat}:t.slot j=.empty <-> t.place[SetTable.below t.place j]?≠some j:=by
 rw[zBp hd]
 by_cases c:t.place[SetTable.below t.place j]?=some j
 ·simp[c]
 ·simp[c]
theorem Msk.le {m:Nat}(h:Msk m):7<=m:=(by decide:∀m∈[7,15,31,63,127,255,511,1023,2047,4095],7<=m) _ h
structure Tab (t:SetTable) (n:Nat) (led:Bool):Prop where
 hm:Msk t.mask
 size:t.place.size=n
 nod:t.dummies=#[]
 up:Up t.place.toList
 room:n*5<t.mask*3
 plain:t.plain=true
 led:t.led=led
theorem Tab.fill {t:SetTable}{n:Nat}{b:Bool}(T:Tab t n b):t.fill=n:=by unfold SetTable.fill;rw[T.size,T.nod];rfl
theorem Tab.fits {t:SetTable}{n:Nat}{b:Bool}(T:Tab t n b):(t.place.size != n || decide (t.fill > t.mask))=false:=by
 have:=T.room
 rw[T.fill,T.size]
 simp;lia
theorem Tab.way {t:SetTable}{n:Nat}{b:Bool}(T:Tab t n b):t.gaveWay=false:=by
 unfold SetTable.gaveWay
 exact(by decide:∀m∈[7,15,31,63,127,255,511,1023,2047,4095],(m % 2 == 0)=false) _ T.hm
theorem Tab.start {t:SetTable}{n:Nat}{b:Bool}(T:Tab t n b) (h:Int):∃m,m<10*SetTable.turns t.mask/\Far t (t.probeStart h) m:=by
 have hn:t.place.toList.length<=t.mask:=by have:=T.room;have:=T.size;simp;lia
 obtain⟨e,he,hne⟩:=zUc T.up hn
 obtain⟨c,hc,ec⟩:=zFy T.hm he
 refine⟨c,hc,?_,rfl⟩
 rw[ec,zCn T.nod]
 intro q
 exact hne (by
  obtain⟨hz,e'⟩:=x8.mp q
  rw[<- e']
  simp)
theorem Tab.turns {t:SetTable}{n:Nat}{b:Bool}(T:Tab t n b):10*SetTable.turns t.mask<100000:=by
 exact(by decide:∀m∈[7,15,31,63,127,255,511,1023,2047,4095],10*SetTable.turns m<100000) _ T.hm
theorem zDp (b:Bool):Tab (SetTable.fresh 0 0 b) 0 b:=⟨.head _,rfl,rfl,.nil,(show 0*5<7*3 by decide),rfl,rfl⟩
structure TabP (t:SetTable) (n:Nat) (led:Bool):Prop where
 hm:Msk t.mask
 size:t.place.size=n
 nod:t.dummies=#[]
 up:Up t.place.toList
 most:(n-1)*5<t.mask*3
 plain:t.plain=true
 led:t.led=led
theorem Tab.put {t:SetTable}{n j:Nat}{b:Bool}(T:Tab t n b) (hj:t.slot j=.empty):TabP (t.put j).1 (n+1) b:=by
 have e:SetTable.has t.dummies j=false:=by rw[T.nod];rfl
 have e2:(t.put j).1={ t with place:=SetTable.insertAt t.place (SetTable.below t.place j) j }:=by
  unfold SetTable.put
  simp[e]
 rw[e2]
 exact⟨T.hm,by show(SetTable.insertAt _ _ _).size=_;rw[zFd,T.size],T.nod,ins_up T.up ((zCn T.nod).mp hj),by show(n+1-1)*5<t.mask*3;have:=T.room;simpa using this,T.plain,T.led⟩
theorem TabP.fill {t:SetTable}{n:Nat}{b:Bool}(T:TabP t n b):t.fill=n:=by unfold SetTable.fill;rw[T.size,T.nod];rfl
theorem TabP.tab {t:SetTable}{n:Nat}{b:Bool}(T:TabP t n b) (h:t.tooFull=false):Tab t n b:=by
 refine⟨T.hm,T.size,T.nod,T.up,?_,T.plain,T.led⟩
 unfold SetTable.tooFull at h
 rw[T.fill]at h
 simpa using h
theorem TabP.fits {t:SetTable}{n:Nat}{b:Bool}(T:TabP t n b):(t.place.size != n || decide (t.fill > t.mask))=false:=by
 have h:=T.most
 have hm:=Msk.le T.hm
 rw[T.fill,T.size]
 simp;lia
theorem zFe {m:Nat}{owner:Array (Option Nat)}{e:Nat}(ho:owner.getD e (some 0)=none):∀(L f:Nat) (x:Nat × Nat),L<f->(orb m L x).1=e->∃j,SetTable.layClean.free m owner f x.1 x.2=some j/\owner.getD j (some 0)=none
 | L,0,x,h,_=>by nofun
 | L,f+1,x,h,he=>by
  unfold SetTable.layClean.free
  cases hf:(List.range (SetTable.runEnd m x.1+1-x.1)).find? fun k=>(owner.getD (x.1+k) (some 0)).isNone with
  | some k=>
   have:=List.find?_some hf
   exact⟨x.1+k,rfl,by simpa using this⟩
  | none=>
   cases L with
   | zero=>
    have hx:x.1=e:=he
    have:=List.find?_eq_none.mp hf 0 (vB.mpr (by unfold SetTable.runEnd;split <;> lia))
    rw[Nat.add_zero,hx,ho]at this
    exact absurd rfl this
   | succ L=>exact zFe ho L f (SetTable.leap m x.1 x.2) (by nofun) he
theorem zH2:∀(l:List (Option Nat)),(l.filterMap id).length<l.length->∃e,e<l.length/\l[e]?=some none
 | [],h=>by simp at h
 | none::l,_=>⟨0,by simp,rfl⟩
 | some v::l,h=>by
  obtain⟨e,h1,h2⟩:=zH2 l (by simpa using h)
  exact⟨e+1,by simp;lia,by simpa using h2⟩
theorem zEw:∀(l:List (Option Nat)) (j k:Nat),l[j]?=some none->((l.set j (some k)).filterMap id).Perm (k::l.filterMap id)
 | [],j,k,h=>by simp at h
 | x::l,0,k,h=>by
  have:x=none:=by simpa using h
  subst this
  simp
 | x::l,j+1,k,h=>by
  have ih:=zEw l j k (by simpa using h)
  cases x with
  | none=>simpa using ih
  | some v=>
   simp only[List.set_cons_succ,vY,id]
   exact(List.Perm.cons v ih).trans (List.Perm.swap _ _ _)
noncomputable def Laid (m:Nat) (acc:Option (Array (Option Nat) × Nat)) (k:Nat):Prop:=∃owner,acc=some (owner,k)/\owner.size=m+1/\(owner.toList.filterMap id).Perm (List.range k)
theorem zLn {m k:Nat}(hm:Msk m) (hk:k<=m) {owner:Array (Option Nat)}(hs:owner.size=m+1) (hp:(owner.toList.filterMap id).Perm (List.range k)) (h:Int):
  ∃j,SetTable.layClean.free m owner (SetTable.turns m) (SetTable.bits h % (m+1)) (SetTable.bits h)=some j/\Laid m (some (owner.setIfInBounds j (some k),k+1)) (k+1):=by
 obtain⟨e,h1,h2⟩:=zH2 owner.toList (by rw[hp.length_eq,List.length_range];simp[hs];lia)
 have h1':e<owner.size:=by simpa using h1
 have ho:owner.getD e (some 0)=none:=by
  have:owner[e]?=some none:=by simpa using h2
  simp[vE,this]
 obtain⟨L,hL,eL⟩:=zH1 hm (Nat.mod_lt _ (by nofun)) (zHm h) (show e<m+1 by nofun)
 obtain⟨j,ej,hj⟩:=zFe ho L (SetTable.turns m) (SetTable.bits h % (m+1),SetTable.bits h) (by unfold SetTable.turns;lia) eL
 refine⟨j,ej,_,rfl,by simpa using hs,?_⟩
 have hj2:owner.toList[j]?=some none:=by
  rw[vE]at hj
  cases hq:owner[j]? with
  | none=>rw[hq]at hj;cases hj
  | some v=>rw[hq]at hj;have:=hj;subst this;simpa using hq
 rw[Array.toList_setIfInBounds]
 refine(zEw _ j k hj2).trans ((List.Perm.cons k hp).trans ?_)
 rw[List.range_succ]
 exact(List.perm_append_singleton k (List.range k)).symm
theorem zI5 {m:Nat}(hm:Msk m):∀(hs:List Int) (k:Nat) (acc:Option (Array (Option Nat) × Nat)),k+hs.length<=m+1->Laid m acc k->
  Laid m (hs.foldl (fun acc h=>do
   let (owner,k) <- acc
   let j <- SetTable.layClean.free m owner (SetTable.turns m) (SetTable.bits h % (m+1)) (SetTable.bits h)
   pure (owner.setIfInBounds j (some k),k+1)) acc) (k+hs.length)
 | [],k,acc,_,L=>L
 | h::hs,k,acc,hl,⟨owner,ea,h1,h2⟩=>by
  subst ea
  obtain⟨j,ej,L⟩:=zLn hm (by simp at hl;lia) h1 h2 h
  have:=zI5 hm hs (k+1) _ (by simp at hl;lia) L
  rw[List.foldl_cons]
  have e2:(do
   let (owner,k) <- some (owner,k)
   let j <- SetTable.layClean.free m owner (SetTable.turns m) (SetTable.bits h % (m+1)) (SetTable.bits h)
   pure (owner.setIfInBounds j (some k),k+1))=some (owner.setIfInBounds j (some k),k+1):=by
   show(SetTable.layClean.free m owner (SetTable.turns m) (SetTable.bits h % (m+1)) (SetTable.bits h) >>= fun j=>pure (owner.setIfInBounds j (some k),k+1))=_
   rw[ej];rfl
  rw[e2,xH,show k+(hs.length+1)=k+1+hs.length by nofun]
  exact this
theorem zI4:∀(l:List (Option Nat)) (g:Nat->Nat),((List.range l.length).filterMap fun j=>((l[j]?).getD none).map fun v=>(g j,v)).map (·.2)=l.filterMap id
 | [],g=>rfl
 | x::l,g=>by
  have ih:=zI4 l (fun j=>g (j+1))
  rw[xH,List.range_succ_eq_map,vY]
  have e:((List.map Nat.succ (List.range l.length)).filterMap fun j=>(((x::l)[j]?).getD none).map fun v=>(g j,v))=(List.range l.length).filterMap fun j=>((l[j]?).getD none).map fun v=>(g (j+1),v):=by
   rw[List.filterMap_map];rfl
  cases x with
  | none=>simp only[yf,Option.getD_some,Option.map_none];rw[e,ih];rfl
  | some v=>simp only[yf,Option.getD_some,ud,xx];rw[e,ih];rfl
theorem zH6 (f:Nat->Option Nat):∀(l:List Nat),Up l->Up ((l.filterMap fun j=>(f j).map fun v=>(j,v)).map (·.1))
 | [],_=>.nil
 | x::l,u=>by
  have ux:=vD.mp u
  rw[vY]
  cases hx:f x with
  | none=>exact zH6 f l ux.2
  | some v=>
   simp only[ud,xx]
   refine vD.mpr ⟨fun y hy=>?_,zH6 f l ux.2⟩
   obtain⟨q,hq,rfl⟩:=xA.mp hy
   obtain⟨z,hz,ez⟩:=uB.mp hq
   cases hf:f z with
   | none=>rw[hf]at ez;cases ez
   | some w=>rw[hf]at ez;cases ez;exact ux.1 _ hz
theorem zSq {m:Nat}(hm:Msk m) {hs:Array Int}(hl:hs.size<=m) (hr:hs.size*5<m*3) (fing moves:Nat) (led:Bool):∃t order,SetTable.laid m fing moves led true hs=some (t,order)/\Tab t hs.size led/\order.toList.Perm (List.range hs.size):=by
 obtain⟨owner,e,h1,h2⟩:=zI5 hm hs.toList 0 (some (Array.replicate (m+1) none,0)) (by simp;lia) ⟨_,rfl,by simp,by simp⟩
 have ec:SetTable.layClean m hs=some owner:=by
  unfold SetTable.layClean
  rw[<- Array.foldl_toList,e]
  rfl
 have es:=zI4 owner.toList id
 have eg:∀j,(owner.getD j none).map (j,·)=((owner.toList[j]?).getD none).map fun v=>(id j,v):=fun j=>by
  rw[vE];simp
 refine⟨_,_,by unfold SetTable.laid;rw[ec];rfl,⟨hm,?_,rfl,?_,hr,rfl,rfl⟩,?_⟩
 ·show(List.map _ _).toArray.size=_
  rw[xq,xF,<- xF]
  rw[<- h1] 
  rw[show owner.size=owner.toList.length by simp]
  simp only[eg]
  rw[es,h2.length_eq]
  simp
 ·show Up (List.map _ _).toArray.toList
  exact zH6 _ _ (List.pairwise_lt_range)
 ·show(List.map _ _).toArray.toList.Perm _
  rw[<- h1,show owner.size=owner.toList.length by simp]
  simp only[eg]
  rw[List.toList_toArray,es]
  simpa using h2
structure TabW (t:SetTable) (n:Nat) (led:Bool):Prop where
 size:t.place.size=n
 up:Up t.place.toList
 fit:t.fill<=t.mask
 plain:t.plain=true
 led:t.led=led
theorem Tab.w {t:SetTable}{n:Nat}{b:Bool}(T:Tab t n b):TabW t n b:=⟨T.size,T.up,by have:=T.room;rw[T.fill];lia,T.plain,T.led⟩
theorem TabW.ft {t:SetTable}{n:Nat}{b:Bool}(T:TabW t n b):t.fits n=true:=by
 unfold SetTable.fits
 rw[T.size,xB T.fit];simp
end TB
namespace TB
open PySem
theorem zBl {t t':SetTable}(h:t.mask=t'.mask):∀(m:Nat) (p:SetTable.Probe),adv t m p=adv t' m p
 | 0,_=>rfl
 | m+1,p=>by
  show adv t m (t.advance p)=adv t' m (t'.advance p)
  have e:t.advance p=t'.advance p:=by unfold SetTable.advance;rw[h]
  rw[e];exact zBl h m _
theorem zAy {t t':SetTable}(h:t.mask=t'.mask) (x:Int):t.probeStart x=t'.probeStart x:=by unfold SetTable.probeStart;rw[h]
theorem zCc {xs:Array Nat}{j:Nat}(u:Up xs.toList):xs[SetTable.below xs j]?=some j <-> j∈xs.toList:=by
 constructor
 ·intro h
  obtain⟨z,e⟩:=x8.mp h
  rw[<- e];simp
 ·intro h
  obtain⟨i,hi,e⟩:=vM.mp h
  have hi':i<xs.size:=by simpa using hi
  have e':xs[i]=j:=by simpa using e
  obtain⟨a,b,c⟩:=zFn j u
  have h1:¬ i<SetTable.below xs j:=fun q=>by have:=b i hi' q;lia
  have h2:¬ SetTable.below xs j<i:=fun q=>by
   have h3:=c _ (by nofun) (xi _)
   have:=zE3 u q (by simpa using hi')
   have:xs[SetTable.below xs j]'(by nofun)<xs[i]:=by simpa using this
   lia
  have h3:SetTable.below xs j=i:=by nofun
  rw[h3,xT hi',e']
theorem zG8 {t:SetTable}{n:Nat}{b:Bool}(T:Tab t n b) (j:Nat):t.slot j=.empty <-> j ∉ t.place.toList:=by
 rw[zCn T.nod,ne_eq,zCc T.up]
noncomputable def Chn (t:SetTable) (h:Int) (j:Nat):Prop:=∃m,(adv t m (t.probeStart h)).j=j/\∀m',m'<m->(adv t m' (t.probeStart h)).j∈t.place.toList
noncomputable def Chs (t:SetTable) (hs:List Int):Prop:=∀q∈t.place.toList.zip hs,Chn t q.2 q.1
theorem Chn.grow {t t':SetTable}{h:Int}{j:Nat}(c:Chn t h j) (hm:t.mask=t'.mask) (hp:∀j∈t.place.toList,j∈t'.place.toList):Chn t' h j:=by
 obtain⟨m,e,al⟩:=c
 refine⟨m,by rw[<- zAy hm,<- zBl hm];exact e,fun m' hm'=>?_⟩
 rw[<- zAy hm,<- zBl hm]
 exact hp _ (al m' hm')
theorem zJu {α β:Type}:∀(p:Nat) (a:List α) (b:List β) (x:α) (y:β),a.length=b.length->∀q∈(a.take p++x::a.drop p).zip (b.take p++y::b.drop p),q=(x,y)\/q∈a.zip b
 | 0,a,b,x,y,h,q,hq=>by
  simp only[List.take_zero,uv,List.drop_zero,vP]at hq
  exact xn.mp hq
 | p+1,[],[],x,y,h,q,hq=>by
  simp at hq
  exact .inl hq
 | p+1,c::a,d::b,x,y,h,q,hq=>by
  simp only[List.take_succ_cons,List.drop_succ_cons,uH,vP]at hq
  rcases xn.mp hq with rfl|hq
  ·exact .inr (xO)
  ·rcases zJu p a b x y (by simpa using h) q hq with z|z
   ·exact .inl z
   ·exact .inr (vd _ z)
 | p+1,[],_::_,x,y,h,q,hq=>by simp at h
 | p+1,_::_,[],x,y,h,q,hq=>by simp at h
theorem zRh {t:SetTable}{n j M:Nat}{b:Bool}{hs:List Int}{h:Int}(T:Tab t n b) (hn:hs.length=n) (C:Chs t hs) (hj:t.slot j=.empty) (hM:(adv t M (t.probeStart h)).j=j) (al:∀m',m'<M->(adv t m' (t.probeStart h)).j∈t.place.toList):
  Chs (t.put j).1 (hs.take (t.put j).2++h::hs.drop (t.put j).2)/\(t.put j).2=SetTable.below t.place j:=by
 have e:SetTable.has t.dummies j=false:=by rw[T.nod];rfl
 have e2:t.put j=({ t with place:=SetTable.insertAt t.place (SetTable.below t.place j) j },SetTable.below t.place j):=by
  unfold SetTable.put
  simp[e]
 rw[e2]
 have pl:({ t with place:=SetTable.insertAt t.place (SetTable.below t.place j) j }:SetTable).place.toList=t.place.toList.take (SetTable.below t.place j)++j::t.place.toList.drop (SetTable.below t.place j):=zD6 _ _ _
 have sub:∀i∈t.place.toList,i∈({ t with place:=SetTable.insertAt t.place (SetTable.below t.place j) j }:SetTable).place.toList:=fun i hi=>(ins_perm t.place _ j).mem_iff.mpr (vd _ hi)
 refine⟨fun q hq=>?_,rfl⟩
 rw[pl]at hq
 rcases zJu _ _ _ _ _ (by simp[T.size,hn]) q hq with rfl|z
 ·exact Chn.grow ⟨M,hM,al⟩ rfl sub
 ·exact(C q z).grow rfl sub
theorem zIu (t:SetTable):∀(c:Nat) (p:SetTable.Probe),c<=p.more->(adv t c p).j=p.j+c
 | 0,p,_=>rfl
 | c+1,p,h=>by
  show(adv t c (t.advance p)).j=_
  have e:t.advance p={ p with j:=p.j+1,more:=p.more-1 }:=by
   unfold SetTable.advance
   rw[xg (by nofun)]
  rw[e,zIu t c _ (by show c<=p.more-1;lia)]
  show p.j+1+c=p.j+(c+1)
  lia
theorem zIf {t:SetTable}{owner:Array (Option Nat)}:∀(f:Nat) (x:Nat × Nat) (j:Nat),SetTable.layClean.free t.mask owner f x.1 x.2=some j->
  ∃m,(adv t m (beg t x none)).j=j/\∀m',m'<m->owner.getD (adv t m' (beg t x none)).j (some 0)≠none
 | 0,x,j,h=>by cases h
 | f+1,x,j,h=>by
  unfold SetTable.layClean.free at h
  have rl:SetTable.runEnd t.mask x.1+1-x.1=(beg t x none).more+1:=by
   show _=SetTable.runEnd t.mask x.1-x.1+1
   unfold SetTable.runEnd;split <;> lia
  rw[rl]at h
  cases hf:(List.range ((beg t x none).more+1)).find? fun k=>(owner.getD (x.1+k) (some 0)).isNone with
  | some k=>
   rw[hf]at h
   have ej:=xP h
   obtain⟨h1,h2,h3⟩:=List.find?_range_eq_some.mp hf
   have hk:=vB.mp h2
   refine⟨k,by rw[zIu t k _ (by nofun)];exact ej,fun m' hm'=>?_⟩
   rw[zIu t m' _ (by nofun)]
   have:=h3 m' hm'
   intro z
   have z':owner.getD (x.1+m') (some 0)=none:=z
   rw[z']at this
   simp at this
  | none=>
   rw[hf]at h
   obtain⟨m,e,al⟩:=zIf f (SetTable.leap t.mask x.1 x.2) j h
   refine⟨(beg t x none).more+1+m,by rw[zAw,zFq t _ _ rfl];exact e,fun m' hm'=>?_⟩
   rcases vj m' ((beg t x none).more+1)with z|z
   ·rw[zIu t m' _ (by nofun)]
    have:=List.find?_eq_none.mp hf m' (vB.mpr z)
    intro w
    have w':owner.getD (x.1+m') (some 0)=none:=w
    rw[w']at this
    simp at this
   ·obtain⟨c,rfl⟩:∃c,m'=(beg t x none).more+1+c:=⟨m' - ((beg t x none).more+1),by nofun⟩
    rw[zAw,zFq t _ _ rfl]
    exact al c (by nofun)
end TB
namespace TB
open PySem
theorem zQ0 (m i:Nat) (h:i<=m):SetTable.runEnd m i<=m:=by unfold SetTable.runEnd;split <;> lia
theorem zQ1 (m i:Nat):i<=SetTable.runEnd m i:=by unfold SetTable.runEnd;split <;> lia
theorem zQu (t:SetTable):∀(m:Nat) (p:SetTable.Probe),p.j+p.more<=t.mask->(adv t m p).j<=t.mask
 | 0,p,h=>by show p.j<=_;lia
 | m+1,p,h=>by
  refine zQu t m (t.advance p) ?_
  unfold SetTable.advance
  by_cases c:p.more > 0
  ·rw[xg c];show p.j+1+(p.more-1)<=_;lia
  ·rw[xh c]
   have:(p.i*5+1+p.perturb / 32) % (t.mask+1)<t.mask+1:=Nat.mod_lt _ (by nofun)
   show(p.i*5+1+p.perturb / 32) % (t.mask+1)+(SetTable.runEnd t.mask ((p.i*5+1+p.perturb / 32) % (t.mask+1))-(p.i*5+1+p.perturb / 32) % (t.mask+1))<=t.mask
   have a:=zQ0 t.mask ((p.i*5+1+p.perturb / 32) % (t.mask+1)) (by nofun)
   have b:=zQ1 t.mask ((p.i*5+1+p.perturb / 32) % (t.mask+1))
   lia
theorem zNo (t:SetTable) (h:Int) (m:Nat):(adv t m (t.probeStart h)).j<=t.mask:=by
 refine zQu t m _ ?_
 have:SetTable.bits h % (t.mask+1)<t.mask+1:=Nat.mod_lt _ (by nofun)
 show SetTable.bits h % (t.mask+1)+(SetTable.runEnd t.mask (SetTable.bits h % (t.mask+1))-SetTable.bits h % (t.mask+1))<=t.mask
 have a:=zQ0 t.mask (SetTable.bits h % (t.mask+1)) (by nofun)
 have b:=zQ1 t.mask (SetTable.bits h % (t.mask+1))
 lia
noncomputable def OwnC (t:SetTable) (hs:List Int) (owner:Array (Option Nat)):Prop:=∀j v,owner[j]?=some (some v)->∃m,(adv t m (t.probeStart (hs.getD v 0))).j=j/\∀m',m'<m->owner.getD (adv t m' (t.probeStart (hs.getD v 0))).j (some 0)≠none
noncomputable def zU7 (t:SetTable) (hs:List Int) (acc:Option (Array (Option Nat) × Nat)) (k:Nat):Prop:=∃owner,acc=some (owner,k)/\owner.size=t.mask+1/\(owner.toList.filterMap id).Perm (List.range k)/\OwnC t hs owner
theorem zJ5 {t:SetTable}{hs:List Int}{k:Nat}(hm:Msk t.mask) (hk:k<=t.mask) {owner:Array (Option Nat)}(hz:owner.size=t.mask+1) (hp:(owner.toList.filterMap id).Perm (List.range k)) (C:OwnC t hs owner) {h:Int}(eh:hs.getD k 0=h):
  ∃j,SetTable.layClean.free t.mask owner (SetTable.turns t.mask) (SetTable.bits h % (t.mask+1)) (SetTable.bits h)=some j/\zU7 t hs (some (owner.setIfInBounds j (some k),k+1)) (k+1):=by
 obtain⟨e,h1,h2⟩:=zH2 owner.toList (by rw[hp.length_eq,List.length_range];simp[hz];lia)
 have h1':e<owner.size:=by simpa using h1
 have ho:owner.getD e (some 0)=none:=by
  have:owner[e]?=some none:=by simpa using h2
  simp[vE,this]
 obtain⟨L,hL,eL⟩:=zH1 hm (Nat.mod_lt _ (by nofun)) (zHm h) (show e<t.mask+1 by nofun)
 obtain⟨j,ej,hj⟩:=zFe ho L (SetTable.turns t.mask) (SetTable.bits h % (t.mask+1),SetTable.bits h) (by unfold SetTable.turns;lia) eL
 have hj1:owner[j]?=some none:=by
  rw[vE]at hj
  cases hq:owner[j]? with
  | none=>rw[hq]at hj;cases hj
  | some v=>rw[hq]at hj;have:=hj;subst this;rfl
 have hj2:owner.toList[j]?=some none:=by simpa using hj1
 have hjz:=(x8.mp hj1).1
 have gd:∀i,owner.getD i (some 0)≠none->(owner.setIfInBounds j (some k)).getD i (some 0)≠none:=fun i hi=>by
  rw[vE]at hi ⊢
  rw[Array.getElem?_setIfInBounds]
  by_cases c:j=i
  ·rw[xg c];split <;> simp
  ·rw[xh c];exact hi
 refine⟨j,ej,_,rfl,by simpa using hz,?_,fun i v hv=>?_⟩
 ·rw[Array.toList_setIfInBounds]
  refine(zEw _ j k hj2).trans ((List.Perm.cons k hp).trans ?_)
  rw[List.range_succ]
  exact(List.perm_append_singleton k (List.range k)).symm
 ·rw[Array.getElem?_setIfInBounds]at hv
  by_cases c:j=i
  ·rw[xg c,xg hjz]at hv
   have ev:k=v:=by simpa using hv
   subst ev c
   obtain⟨m,em,al⟩:=zIf _ (SetTable.bits h % (t.mask+1),SetTable.bits h) j ej
   rw[eh]
   exact⟨m,em,fun m' hm'=>gd _ (al m' hm')⟩
  ·rw[xh c]at hv
   obtain⟨m,em,al⟩:=C i v hv
   exact⟨m,em,fun m' hm'=>gd _ (al m' hm')⟩
theorem zG4 {t:SetTable}(hm:Msk t.mask) (hs0:List Int):∀(hs:List Int) (k:Nat) (acc:Option (Array (Option Nat) × Nat)),k+hs.length<=t.mask+1->(∀i,hs.getD i 0=hs0.getD (k+i) 0)->zU7 t hs0 acc k->
  zU7 t hs0 (hs.foldl (fun acc h=>do
   let (owner,k) <- acc
   let j <- SetTable.layClean.free t.mask owner (SetTable.turns t.mask) (SetTable.bits h % (t.mask+1)) (SetTable.bits h)
   pure (owner.setIfInBounds j (some k),k+1)) acc) (k+hs.length)
 | [],k,acc,_,_,L=>L
 | h::hs,k,acc,hl,he,⟨owner,ea,h1,h2,h3⟩=>by
  subst ea
  obtain⟨j,ej,L⟩:=zJ5 hm (by simp at hl;lia) h1 h2 h3 (by have:=he 0;simpa using this.symm)
  have:=zG4 hm hs0 hs (k+1) _ (by simp at hl;lia) (fun i=>by have:=he (i+1);rw[show k+1+i=k+(i+1) by nofun];simpa using this) L
  rw[List.foldl_cons]
  have e2:(do
   let (owner,k) <- some (owner,k)
   let j <- SetTable.layClean.free t.mask owner (SetTable.turns t.mask) (SetTable.bits h % (t.mask+1)) (SetTable.bits h)
   pure (owner.setIfInBounds j (some k),k+1))=some (owner.setIfInBounds j (some k),k+1):=by
   show(SetTable.layClean.free t.mask owner (SetTable.turns t.mask) (SetTable.bits h % (t.mask+1)) (SetTable.bits h) >>= fun j=>pure (owner.setIfInBounds j (some k),k+1))=_
   rw[ej];rfl
  rw[e2,xH,show k+(hs.length+1)=k+1+hs.length by nofun]
  exact this
theorem zI6 {m:Nat}(hm:Msk m) {hs:Array Int}(hl:hs.size<=m) (hr:hs.size*5<m*3) (fing moves:Nat) (led:Bool):∃t order,SetTable.laid m fing moves led true hs=some (t,order)/\Tab t hs.size led/\order.toList.Perm (List.range hs.size)/\Chs t (order.toList.map fun k=>hs.toList.getD k 0):=by
 let t0:SetTable:={ mask:=m,place:=#[],dummies:=#[],finger:=fing,led:=led,moves:=moves,plain:=true }
 obtain⟨owner,e,h1,h2,h3⟩:=zG4 (t:=t0) hm hs.toList hs.toList 0 (some (Array.replicate (m+1) none,0)) (by show 0+hs.toList.length<=m+1;simp;lia) (fun i=>by rw[vO]) ⟨_,rfl,by show _=m+1;simp,by show((Array.replicate (m+1) (none:Option Nat)).toList.filterMap id).Perm (List.range 0);simp,fun j v hv=>by rw[Array.getElem?_replicate]at hv;split at hv <;> cases hv⟩
 have h1:=h1
 have ec:SetTable.layClean m hs=some owner:=by
  unfold SetTable.layClean
  rw[<- Array.foldl_toList]
  have e':(hs.toList.foldl (fun acc h=>do
   let (owner,k) <- acc
   let j <- SetTable.layClean.free m owner (SetTable.turns m) (SetTable.bits h % (m+1)) (SetTable.bits h)
   pure (owner.setIfInBounds j (some k),k+1)) (some (Array.replicate (m+1) none,0)))=some (owner,0+hs.toList.length):=e
  rw[e']
  rfl
 obtain⟨t,order,a,T,p⟩:=zSq hm hl hr fing moves led
 refine⟨t,order,a,T,p,?_⟩
 unfold SetTable.laid at a
 rw[ec]at a
 have a':=xP a
 obtain⟨e1,e2⟩:=Prod.mk.inj a'
 have mem:∀j,j<=m->owner.getD j (some 0)≠none->j∈t.place.toList:=fun j hj hn=>by
  rw[<- e1]
  show j∈(List.map (fun r:Nat × Nat=>r.1) _).toArray.toList
  have hz:j<owner.size:=by nofun
  have hg:=xT hz
  rw[vE,hg]at hn
  cases hv:owner[j]with
  | none=>rw[hv]at hn;exact absurd rfl hn
  | some v=>exact xA.mpr ⟨(j,v),uB.mpr ⟨j,vB.mpr (by nofun),by rw[vE,hg,hv];rfl⟩,rfl⟩
 have tm:t.mask=t0.mask:=by rw[<- e1]
 intro q hq
 have zq:∃r∈((List.range (m+1)).filterMap fun j=>(owner.getD j none).map (j,·)),q=(r.1,hs.toList.getD r.2 0):=by
  rw[<- e1,<- e2]at hq
  simp only[ue]at hq
  generalize ((List.range (m+1)).filterMap fun j=>(owner.getD j none).map (j,·))=live at hq
  clear a a' e1 e2 T p mem
  induction live with
  | nil=>simp at hq
  | cons r live ih=>
   simp only[xx,vP]at hq
   rcases xn.mp hq with rfl|hq
   ·exact⟨r,.head _,rfl⟩
   ·obtain⟨r',hr',e'⟩:=ih hq
    exact⟨r',.tail _ hr',e'⟩
 obtain⟨⟨j,v⟩,hr,rfl⟩:=zq
 obtain⟨j',hj',ej⟩:=uB.mp hr
 have hov:owner[j']?=some (some v)/\j'=j:=by
  rw[vE]at ej
  cases ho:owner[j']? with
  | none=>rw[ho]at ej;cases ej
  | some w=>
   rw[ho]at ej
   cases w with
   | none=>cases ej
   | some u=>cases ej;exact⟨rfl,rfl⟩
 obtain⟨hov,rfl⟩:=hov
 obtain⟨mm,em,al⟩:=h3 j' v hov
 refine⟨mm,by rw[zAy tm,zBl tm];exact em,fun m' hm'=>?_⟩
 rw[zAy tm,zBl tm]
 exact mem _ (zNo t0 _ m') (al m' hm')
end TB
namespace TB
open PySem
theorem zE7 {t:SetTable}{hashAt:Nat->Int}{h:Int}(hd:t.dummies=#[]):∀(f m:Nat) (p:SetTable.Probe),m<f->Far t p m->
  (∃d,d<=m/\SetTable.probe.go t hashAt h f p=some (.empty (adv t d p).j none)/\t.slot (adv t d p).j=.empty/\∀d',d'<d->∃i,t.slot (adv t d' p).j=.live i/\(hashAt i == h)=false) \/
  (∃d i,d<m/\SetTable.probe.go t hashAt h f p=some (.candidate (adv t d p).j i (adv t (d+1) p))/\t.slot (adv t d p).j=.live i/\(∀d',d'<d->∃i,t.slot (adv t d' p).j=.live i/\(hashAt i == h)=false)/\Far t (adv t (d+1) p) (m-(d+1)))
 | 0,m,p,hf,_=>by nofun
 | f+1,m,p,hf,⟨hm,hp⟩=>by
  unfold SetTable.probe.go
  have nd:=zBp hd p.j
  cases hs:t.slot p.j with
  | empty=>exact .inl ⟨0,vg _,by rw[hp];rfl,hs,fun d' h=>by nofun⟩
  | dummy=>rw[hs]at nd;split at nd <;> cases nd
  | live i=>
   obtain⟨m',rfl⟩:∃m',m=m'+1:=by
    cases m with
    | zero=>
     have:t.slot p.j=.empty:=hm
     rw[hs]at this;cases this
    | succ k=>exact⟨k,rfl⟩
   have fr:Far t (t.advance p) m':=⟨hm,(zGr t 1 p).trans hp⟩
   dsimp only
   by_cases c:(hashAt i == h)=true
   ·rw[xg c]
    exact .inr ⟨0,i,by nofun,rfl,hs,fun d' h=>by nofun,by rw[show m'+1-(0+1)=m' by nofun];exact fr⟩
   ·rw[xh c]
    have c':(hashAt i == h)=false:=by simpa using c
    rcases zE7 hd f m' _ (by nofun) fr with⟨d,h1,h2,h3,h4⟩|⟨d,i',h1,h2,h3,h4,h5⟩
    ·refine .inl ⟨d+1,by nofun,h2,h3,fun d' hd'=>?_⟩
     cases d' with
     | zero=>exact⟨i,hs,c'⟩
     | succ d'=>exact h4 d' (by nofun)
    ·refine .inr ⟨d+1,i',by nofun,h2,h3,fun d' hd'=>?_,by rw[show m'+1-(d+1+1)=m' - (d+1) by nofun];exact h5⟩
     cases d' with
     | zero=>exact⟨i,hs,c'⟩
     | succ d'=>exact h4 d' (by nofun)
theorem zH7 {t:SetTable}{n j i:Nat}{b:Bool}(T:Tab t n b) (h:t.slot j=.live i):t.place[i]?=some j:=by
 rw[zBp T.nod]at h
 split at h
 ·rename_i c
  cases h
  exact eq_of_beq c
 ·cases h
theorem zSn {t:SetTable}{n j i:Nat}{b:Bool}(T:Tab t n b) (h:t.slot j=.live i):j∈t.place.toList:=by
 obtain⟨z,e⟩:=x8.mp (zH7 T h)
 rw[<- e];simp
theorem zHs {l:List Nat}(u:Up l) {i j:Nat}(hi:i<l.length) (hj:j<l.length) (e:l[i]=l[j]):i=j:=by
 rcases uW i j with z|z|z
 ·have:=zE3 u z hj;lia
 ·exact z
 ·have:=zE3 u z hi;lia
theorem zKn {t:SetTable}{n:Nat}{b:Bool}(T:TabP t n b) (hf:t.tooFull=true) (hn:n<=1200) (hs:Array Int) (hz:hs.size=n):
  (decide (SetTable.sizeAbove (SetTable.grown n) > sizeLine)=false)/\∃t' order,t.relaid hs (SetTable.grown n)=some (t',order)/\Tab t' n b/\order.toList.Perm (List.range n)/\Chs t' (order.toList.map fun k=>hs.toList.getD k 0):=by
 have h1:=T.most
 unfold SetTable.tooFull at hf
 rw[T.fill]at hf
 have hf:t.mask*3<=n*5:=by simpa using hf
 have c:∃M,Msk M/\SetTable.sizeAbove (SetTable.grown n)=M+1/\n<=M/\n*5<M*3/\decide (SetTable.sizeAbove (SetTable.grown n) > sizeLine)=false:=by
  have c:n∈[5,9,19,38,77,153,307,614]:=by
   simp only[xn,vN,or_false]
   have:=T.hm
   simp only[Msk,xn,vN,or_false]at this
   rcases this with e|e|e|e|e|e|e|e|e|e <;> rw[e]at h1 hf <;> lia
  exact(by decide +kernel:∀n∈[5,9,19,38,77,153,307,614],∃M∈[7,15,31,63,127,255,511,1023,2047,4095],SetTable.sizeAbove (SetTable.grown n)=M+1/\n<=M/\n*5<M*3/\decide (SetTable.sizeAbove (SetTable.grown n) > sizeLine)=false) n c
 have key:∀M,Msk M->SetTable.sizeAbove (SetTable.grown n)=M+1->n<=M->n*5<M*3->∃t' order,t.relaid hs (SetTable.grown n)=some (t',order)/\Tab t' n b/\order.toList.Perm (List.range n)/\Chs t' (order.toList.map fun k=>hs.toList.getD k 0):=fun M hM e1 e2 e3=>by
  obtain⟨t',order,a,T',p,C⟩:=zI6 hM (hs:=hs) (by nofun) (by nofun) t.finger (t.movedTo M) b
  rw[hz]at T' p
  refine⟨t',order,?_,T',p,C⟩
  unfold SetTable.relaid
  rw[e1,T.plain,T.led]
  exact a
 obtain⟨M,a1,a2,a3,a4,a5⟩:=c
 exact⟨a5,key M a1 a2 a3 a4⟩
end TB
namespace TS
open PySem TB
noncomputable abbrev sObj (es:Array (Int × Value)) (ep:Nat) (t:SetTable):Obj:={ cls:=.type "set",dict:=none,data:=.set es ep t,slots:=#[] }
theorem Tab.ft {t:SetTable}{n:Nat}{b:Bool}(T:Tab t n b):t.fits n=true:=by
 have:=T.fits
 unfold SetTable.fits
 simp at this ⊢
 exact⟨this.1,this.2⟩
theorem TabP.ft {t:SetTable}{n:Nat}{b:Bool}(T:TabP t n b):t.fits n=true:=by
 have:=T.fits
 unfold SetTable.fits
 simp at this ⊢
 exact⟨this.1,this.2⟩
section
variable {prog:Program}{w:World}{A:Around}{E:Value->Shared->Prop}{s:Shared}
theorem gate {M:Model}{α:Type}{c:Prop}[Decidable c] {m:Sem Bool}{U R:Sem α}{Q:α->Shared->Prop}(hm:∀Q':Bool->Shared->Prop,Q' false s->wpAny M A m Q' E s) (hR:wpAny M A R Q E s):
  wpAny M A (if c then m >>= fun b=>if b=true then U else R else R) Q E s:=by
 by_cases h:c
 ·rw[xg h]
  exact xc (hm _ (by rw[xh (by decide)];exact hR))
 ·rw[xh h];exact hR
noncomputable def adr:Value->Addr
 | .ref a=>a
 | _=>0
end
end TS
namespace TS
open PySem TB
noncomputable abbrev zAa (w:World):Bool:=!(w.params.followText "set-order")
section
variable {prog:Program}{w:World}{A:Around}{E:Value->Shared->Prop}{s:Shared}
noncomputable abbrev nObj (w:World):Obj:=sObj #[] 0 (.fresh 0 0 (zAa w))
theorem zAl (a:Value) {Q₁:Value->Shared->Prop}(h:Q₁ (.ref s.heap.objs.size) { s with heap:=s.heap.push (nObj w) }):
  codeAny (model prog w) A (.call (.builtin "set.__new__") ⟨[.type "set",a],[]⟩) (wants Q₁ E) s:=by
 refine codeAny_of_tree (?_)
 refine xc (wpAny_of_eq (F.newCall_set_1 a) (xf ⟨plainId_quiet F.plain_set_new _,uZ F.entry_set_new ?_⟩));rw[Around.under_plainId F.plain_set_new _]
 unfold Builtin.«set.__new__» Builtin.Frozenset.newClass;have hsub:=sub_set_self;obtain⟨hp,g,d,tk,os⟩:=s;dsimp only;wp_walk
 refine vW (xf ?_);dsimp only;simp only[newObj]
 exact xc (wpAny_alloc (xf (xf h)))
end
end TS
namespace TS
open PySem TB
theorem si_next:Slot "set_iterator" "__next__" "set_iterator.__next__":=
 .of (owner:="set_iterator") (n:="__next__") (by rw[typeLookup_type,yd];kernel_rfl) (by decide +kernel) (by decide +kernel) (by decide +kernel) (by first|exact .inl (by decide +kernel)|exact .inr (by decide +kernel)) (by rw[isSubtype_type];kernel_rfl)
theorem zHy:entryFor table "set_iterator.__next__"=some Builtin.«set_iterator.__next__»:=entryFor_of_tree (by kernel_rfl)
theorem zKf (a:Value):argsOk "set_iterator.__next__" ⟨[a],[]⟩:=by unfold argsOk;kernel_rfl
theorem zKd:Slot "set_iterator" "__iter__" "set_iterator.__iter__":=
 .of (owner:="set_iterator") (n:="__iter__") (by rw[typeLookup_type,yd];kernel_rfl) (by decide +kernel) (by decide +kernel) (by decide +kernel) (by first|exact .inl (by decide +kernel)|exact .inr (by decide +kernel)) (by rw[isSubtype_type];kernel_rfl)
theorem zKe:entryFor table "set_iterator.__iter__"=some Builtin.«dict_keyiterator.__iter__»:=entryFor_alias (id':="dict_keyiterator.__iter__") (by kernel_rfl) rfl (by decide +kernel) (by kernel_rfl)
theorem zNr (a:Value):argsOk "set_iterator.__iter__" ⟨[a],[]⟩:=by unfold argsOk;kernel_rfl
theorem zY5:entryFor table "set.__iter__"=some Builtin.«frozenset.__iter__»:=entryFor_alias (id':="frozenset.__iter__") (by kernel_rfl) rfl (by decide +kernel) (by kernel_rfl)
theorem zEg {α:Type}:∀(l:List α) (i:Nat) (h:i<l.length),(l[i]::l.eraseIdx i).Perm l
 | [],i,h=>by simp at h
 | x::l,0,h=>by simp
 | x::l,i+1,h=>by
  simp only[List.getElem_cons_succ,List.eraseIdx_cons_succ]
  exact(List.Perm.swap _ _ _).trans (List.Perm.cons x (zEg l i (by simpa using h)))
theorem zL0 {α:Type}(next:Nat->Nat):∀(f k:Nat) (left:List α) (out:Array α),left.length=f->∃l,(pickOrder.go next f k left out).toList=out.toList++l/\l.Perm left
 | 0,k,left,out,h=>⟨[],by simp[pickOrder.go],by rw[List.length_eq_zero_iff.mp h]⟩
 | f+1,k,left,out,h=>by
  have hl:next k % left.length<left.length:=Nat.mod_lt _ (by nofun)
  unfold pickOrder.go
  rw[xu hl]
  dsimp only
  obtain⟨l,e,p⟩:=zL0 next f (k+1) (left.eraseIdx (next k % left.length)) (out.push left[next k % left.length]) (by rw[List.length_eraseIdx];simp[hl];lia)
  refine⟨left[next k % left.length]::l,by rw[e];simp,(List.Perm.cons _ p).trans ?_⟩
  exact zEg left _ hl
theorem zKz {α:Type}(next:Nat->Nat) (xs:Array α):(pickOrder next xs).toList.Perm xs.toList:=by
 obtain⟨l,e,p⟩:=zL0 next xs.size 0 xs.toList #[] (by simp)
 unfold pickOrder
 rw[e]
 simpa using p
noncomputable def ordW (w:World) (S:Addr) (ep:Nat) (es:Array (Int × Value)):Array (Int × Value):=if w.params.followText "set-order"=true then pickOrder (w.params.setOrder S ep) es else es
theorem zA6 (w:World) (S:Addr) (ep:Nat) (es:Array (Int × Value)):(ordW w S ep es).toList.Perm es.toList:=by
 unfold ordW
 split
 ·exact zKz _ _
 ·exact .refl _
theorem zA8 (w:World) (S:Addr) (ep:Nat) (es:Array (Int × Value)):(ordW w S ep es).size=es.size:=by simpa using(zA6 w S ep es).length_eq
noncomputable def zDg (w:World) (t:SetTable) (i:Nat):Nat:=if w.params.followText "set-order"=true then 0 else TB.slotAt t.place i
section
variable {prog:Program}{w:World}{A:Around}{E:Value->Shared->Prop}{s:Shared}
noncomputable def IsSI (w:World) (h:Heap) (I S:Addr) (i n ep:Nat) (t:SetTable):Prop:=∃o,h.get? I=some o/\o.cls=.type "set_iterator"/\o.data=.fields #[.int (zDg w t i) 0,.int i 0,.ref S,.int n 0,.int ep 0]
theorem IsSI.typeIs {I S:Addr}{i n ep:Nat}{t:SetTable}(x:IsSI w s.heap I S i n ep t):s.TypeIs (.ref I) "set_iterator":=let ⟨o,ho,hc,_⟩:=x;⟨o,ho,hc⟩
theorem walk_of {S:Addr}{es:Array (Int × Value)}{ep:Nat}{t:SetTable}(ho:s.heap.get? S=some (sObj es ep t)) (T:TabW t es.size (!(w.params.followText "set-order"))) (i:Nat) (hi:i<=es.size) {Q:Option (Value × Nat)->Shared->Prop}
  (h:Q (((ordW w S ep es)[i]?).map fun e=>(e.2,zDg w t (i+1))) s):wpAny (model prog w) A (setNext S (zDg w t i) i ep) Q E s:=by
 unfold setNext
 refine xc (xJ ho rfl T.ft ?_)
 dsimp only
 unfold setsByText
 refine xc (xc (vW (xf ?_)))
 show wpAny _ _ (if(w.params.followText "set-order")=true then _ else _) _ _ _
 by_cases c:w.params.followText "set-order"=true
 ·rw[xg c]
  rw[xh (by simp)]
  refine xc ?_
  unfold setWalk
  refine xc (xJ ho rfl T.ft ?_)
  dsimp only
  unfold setsByText
  refine xc (xc (vW (xf ?_)))
  show wpAny _ _ (if(w.params.followText "set-order")=true then _ else _) _ _ _
  rw[xg c]
  refine xc (vW (xf (xf ?_)))
  unfold ordW zDg at h
  rw[xg c,xg c]at h
  unfold zDg
  rw[xg c]
  exact h
 ·rw[xh c]
  have hl:t.led=true:=by rw[T.led];simpa using c
  have e1:(!t.plain && decide (es.size > 1))=false:=by rw[T.plain];rfl
  show wpAny _ _ (if(!t.plain && decide (es.size > 1))=true then _ else _) _ _ _
  rw[e1]
  rw[xh (by decide)]
  show wpAny _ _ ((if(!t.led && !es.isEmpty)=true then _ else pure ()) >>= _) _ _ _
  rw[hl]
  rw[xh (by simp)]
  refine xc (xf ?_)
  unfold ordW zDg at h
  rw[xh c,xh c]at h
  unfold zDg
  rw[xh c,zGn T.up (by rw[T.size];exact hi)]
  refine xf ?_
  rcases vj i es.size with z|z
  ·have z2:i<t.place.size:=by rw[T.size];exact z
   rw[xT z,xT z2]
   rw[xT z]at h
   have:TB.slotAt t.place (i+1)=t.place[i]+1:=by unfold TB.slotAt;simp[Array.getD,z2]
   rw[this]at h
   exact h
  ·rw[Array.getElem?_eq_none z]
   rw[Array.getElem?_eq_none z]at h
   exact h
theorem zR6 {I S:Addr}{i ep:Nat}{es:Array (Int × Value)}{t:SetTable}{e:Int × Value}{Q:Option Value->Shared->Prop}(hit:IsSI w s.heap I S i es.size ep t) (ho:s.heap.get? S=some (sObj es ep t)) (T:TabW t es.size (!(w.params.followText "set-order"))) (hne:S≠I)
  (hx:(ordW w S ep es)[i]?=some e) (hQ:∀h',IsSI w h' I S (i+1) es.size ep t->Heap.SameBut I s.heap h'->Q (some e.2) { s with heap:=h' }):wpAny (model prog w) A (pyNext (.ref I)) Q E s:=by
 have hlt:i<es.size:=by rw[<- zA8 w S ep es];exact(x8.mp hx).1
 obtain⟨o,hi,hc,hd⟩:=id hit
 unfold pyNext
 refine xc (wpAny_attempt (vI hit.typeIs si_next (xS si_next hit.typeIs zHy ?_ (zKf _))))
 unfold Builtin.«set_iterator.__next__»
 refine xc (xf ?_)
 refine xc (wpAny_fieldsOf hi hd ?_)
 dsimp only
 refine xc (yg ho rfl T.ft ?_)
 rw[xh (by simp)]
 simp only[Int.toNat_natCast]
 refine xc (walk_of ho T i (xN hlt) ?_)
 rw[hx]
 simp only[ud]
 refine xc (wpAny_setField hi hd (by simp) ?_)
 have g1:=vL (Obj.mapFields fun x=>x.setIfInBounds 0 (rawInt ↑(zDg w t (i+1)))) hi (Obj.isFreed_of_fields (uI hd _))
 have d1:=uI hd fun x=>x.setIfInBounds 0 (rawInt ↑(zDg w t (i+1)))
 refine xc (wpAny_setField g1 d1 (by simp) (xf ⟨e.2,rfl,xf (hQ _ ⟨_,vL _ g1 (Obj.isFreed_of_fields (uI d1 _)),(Obj.cls_mapFields ..).trans ((Obj.cls_mapFields ..).trans hc),?_⟩ ((vF ..).trans (vF ..)))⟩))
 rw[uI d1]
 simp[rawInt]
theorem zR7 {I S:Addr}{ep:Nat}{es:Array (Int × Value)}{t:SetTable}{Q:Option Value->Shared->Prop}(hh:A.handled=none) (hit:IsSI w s.heap I S es.size es.size ep t) (ho:s.heap.get? S=some (sObj es ep t)) (T:TabW t es.size (!(w.params.followText "set-order"))) (hne:S≠I)
  (hQ:∀h',Heap.ExtBut I s.heap h'->Q none { s with heap:=h' }):wpAny (model prog w) A (pyNext (.ref I)) Q E s:=by
 obtain⟨o,hi,hc,hd⟩:=id hit
 unfold pyNext
 refine xc (wpAny_attempt (vI hit.typeIs si_next (xS si_next hit.typeIs zHy ?_ (zKf _))))
 unfold Builtin.«set_iterator.__next__»
 refine xc (xf ?_)
 refine xc (wpAny_fieldsOf hi hd ?_)
 dsimp only
 refine xc (yg ho rfl T.ft ?_)
 rw[xh (by simp)]
 simp only[Int.toNat_natCast]
 refine xc (walk_of ho T es.size (xi _) ?_)
 rw[Array.getElem?_eq_none (by rw[zA8];exact xi _)]
 simp only[Option.map_none]
 refine xc (wpAny_setField hi hd (by simp) ?_)
 refine xc ?_
 simp only[newExc,newTuple]
 refine xc (ve (xc (wpAny_of_eq (by first|rfl|(simp only[firstArgMember];rfl)) (ve ?_ (by size_fits)))) (by size_fits))
 simp only[raiseNew]
 refine xc (wpAny_handled ?_);rw[show A.in1.handled=none from hh]
 refine xc (xf (wpAny_throw ?_))
 refine xc (vT ⟨_,xD _ rfl,rfl⟩ isSubtype_stop (xf (hQ _ (((vF ..).extBut.push _).push _))))
theorem zJx (hh:A.handled=none) (I S:Addr) (hne:S≠I) (es:Array (Int × Value)) (ep:Nat) (t:SetTable) (T:TabW t es.size (!(w.params.followText "set-order"))):
  Walks prog w A I [I,S] [I] es.size (fun i v=>((ordW w S ep es).map (·.2))[i]?=some v) (fun i h=>IsSI w h I S i es.size ep t/\h.get? S=some (sObj es ep t)) where
 sub:=fun b hb=>by simp at hb;simp[hb]
 frame:=fun _ _ _ st hk=>⟨let ⟨o,ho,r⟩:=st.1;⟨o,hk I (by simp) o ho,r⟩,hk S (by simp) _ st.2⟩
 item:=fun i s Q E hi st hQ=>by
  have hz:i<(ordW w S ep es).size:=by rw[zA8];exact hi
  refine zR6 st.1 st.2 T hne (xT hz) fun h' it' sb=>?_
  exact hQ _ h' s.toks (by rw[Array.getElem?_map,xT hz];rfl) ⟨it',(sb.2 S hne).trans st.2⟩ fun b o hb e=>(sb.2 b fun z=>hb (by simp[z])).trans e
 done:=fun s Q E st hQ=>zR7 hh st.1 st.2 T hne fun h' he'=>hQ h' s.toks fun b o hb e=>he' b o (fun h=>hb (by simp[h])) e
 self:=fun i s Q E st hQ=>wpAny_pyIter_slot st.1.typeIs zKd (xS zKd st.1.typeIs zKe (xf ⟨_,rfl,"set_iterator",_,st.1.typeIs,si_next.lookup,hQ⟩) (zNr _))
theorem zP0 {S:Addr}{es:Array (Int × Value)}{ep:Nat}{t:SetTable}{Q:Value->Shared->Prop}(ho:s.heap.get? S=some (sObj es ep t)) (T:TabW t es.size (!(w.params.followText "set-order")))
  (h:Q (.ref s.heap.objs.size) { s with heap:=s.heap.push { cls:=.type "set_iterator",data:=.fields #[.int 0 0,.int 0 0,.ref S,.int es.size 0,.int ep 0] } }):wpAny (model prog w) A (pyIter (.ref S)) Q E s:=by
 have hT:s.TypeIs (.ref S) "set":=⟨_,ho,rfl⟩
 refine wpAny_pyIter_slot hT F.slot_set_iter (xS F.slot_set_iter hT zY5 ?_ (F.args_set_iter_1 _))
 unfold Builtin.«frozenset.__iter__»
 refine xc (xf ?_)
 unfold Builtin.Frozenset.sizeOf
 refine xc (xc (yg ho rfl T.ft (xf ?_)))
 unfold setDrawn
 refine xc (xc (xJ ho rfl T.ft ?_))
 dsimp only
 unfold setsByText
 refine xc (xc (vW (xf (xf ?_))))
 show wpAny _ _ (if(!(w.params.followText "set-order") && (!t.plain && decide (es.size > 1)))=true then _ else _) _ _ _
 rw[xh (by rw[T.plain];simp)]
 refine xc (xf ?_)
 refine xc (uw ho rfl T.ft ?_)
 unfold newFields
 refine xc (ve (xf ⟨_,rfl,"set_iterator",_,⟨_,xD _ rfl,rfl⟩,si_next.lookup,?_⟩))
 simpa[rawInt]using h
theorem zP5 {S:Addr}{Q:Bool->Shared->Prop}(hT:s.TypeIs (.ref S) "set") (h:Q false s):wpAny (model prog w) A (Builtin.List.listLengthHint (.ref S)) Q E s:=by
 unfold Builtin.List.listLengthHint
 refine xc (ub hT F.slot_set_len.lookup ?_)
 generalize hid:("set.__len__":String)=id0;wp_delta;rw[show splitId id0=some ("set","__len__")from by subst hid;decide +kernel];subst hid
 refine xc (vT hT sub_set_self (wpAny_ite_split (fun hab=>absurd hab (by decide)) fun _=>wpAny_ite_split (fun _=>xc (uk hT (xf h))) fun hab=>absurd (by decide +kernel) hab))
open PySem.W in
theorem zGy {S:Addr}{es:Array (Int × Value)}{ep:Nat}{t:SetTable}(T:TabW t es.size (!(w.params.followText "set-order"))):
  KdlSrc prog w "set" S S es.size (fun i v=>((ordW w S ep es).map (·.2))[i]?=some v) (fun h=>h.get? S=some (sObj es ep t)) where
 type:=fun s ok=>⟨_,ok,rfl⟩
 there:=fun h ok=>⟨xl ok,xl ok⟩
 keep:=fun h h' ok k=>k S (.inl rfl) _ ok
 notList:=by decide
 notTuple:=by decide
 hint:=fun A E s Q ok h=>zP5 ⟨_,ok,rfl⟩ h
 iter:=fun A s hh ok=>⟨{ cls:=.type "set_iterator",data:=.fields #[.int 0 0,.int 0 0,.ref S,.int es.size 0,.int ep 0] },_,fun E Q h=>zP0 ok T h,
  zJx hh _ S (xr (xl ok)) es ep t T,⟨_,xD _ rfl,rfl,by
   have:zDg w t 0=0:=by unfold zDg;split <;> rfl
   rw[this];rfl⟩,xm _ ok⟩
end
end TS
namespace TS
open PySem
noncomputable def KIt (b:Bool) (h:Heap) (i a:Addr) (k:Nat):Prop:=∃o,h.get? i=some o/\o.cls=.type (if b then "tuple_iterator" else "list_iterator")/\o.data=.fields #[.ref a,.int k 0]
noncomputable def KSq (b:Bool) (h:Heap) (a:Addr) (xs:Array Value):Prop:=∃o,h.get? a=some o/\o.cls=.type (if b then "tuple" else "list")/\∃n,o.data=.seq xs n
theorem KIt.at {b:Bool}{h h':Heap}{i a:Addr}{k:Nat}(x:KIt b h i a k) (e:∀o,h.get? i=some o->h'.get? i=some o):KIt b h' i a k:=let ⟨o,ho,r⟩:=x;⟨o,e _ ho,r⟩
theorem KSq.at {b:Bool}{h h':Heap}{a:Addr}{xs:Array Value}(x:KSq b h a xs) (e:∀o,h.get? a=some o->h'.get? a=some o):KSq b h' a xs:=let ⟨o,ho,r⟩:=x;⟨o,e _ ho,r⟩
theorem KIt.xb {b:Bool}{h h':Heap}{i a c:Addr}{k:Nat}(x:KIt b h i a k) (e:Heap.ExtBut c h h') (n:i≠c):KIt b h' i a k:=x.at fun o q=>e _ _ n q
theorem KSq.xb {b:Bool}{h h':Heap}{a c:Addr}{xs:Array Value}(x:KSq b h a xs) (e:Heap.ExtBut c h h') (n:a≠c):KSq b h' a xs:=x.at fun o q=>e _ _ n q
section
variable {prog:Program}{w:World}{A:Around}{E:Value->Shared->Prop}{s:Shared}
theorem next_item {b:Bool}{it l:Addr}{i:Nat}{items:Array Value}{x:Value}{Q:Value->Shared->Prop}(hit:KIt b s.heap it l i) (hl:KSq b s.heap l items) (hx:items[i]?=some x)
  (hQ:∀h',KIt b h' it l (i+1)->Heap.SameBut it s.heap h'->Q x { s with heap:=h' }):wpAny (model prog w) A (Builtin.SmallTypes.nextOf (.ref it)) Q E s:=by
 cases b with
 | false=>exact wpAny_nextOf_list_item hit hl hx hQ
 | true=>
  obtain⟨o,ho,hc,hd⟩:=id hit
  obtain⟨ol,hol,_,nl,hdl⟩:=hl
  have hT:s.TypeIs (.ref it) "tuple_iterator":=⟨o,ho,hc⟩
  unfold Builtin.SmallTypes.nextOf
  refine xc (vI hT yh (xS yh hT F.entry_tuple_iterator_next ?_ (F.args_tuple_iterator_next_1 _)))
  refine(show wpAny _ _ (field (.ref it) 0 >>= _) _ _ s from xc (xR ho hd rfl (show wpAny _ _ (if(Value.ref l == Value.none)=true then _ else _) _ _ s from ?_)))
  rw[xh (show ¬ ((Value.ref l == Value.none)=true)from xY)]
  refine(xc (xR ho hd rfl (xc (vz hol hdl ?_))))
  simp only[Int.toNat_natCast,hx]
  refine xc (wpAny_setField ho hd (by simp) (xf ⟨x,rfl,xf (hQ _ ⟨_,vL _ ho (Obj.isFreed_of_fields (uI hd _)),(Obj.cls_mapFields ..).trans hc,?_⟩ (vF ..))⟩))
  rw[uI hd];simp[rawInt]
theorem next_end {b:Bool}{it l:Addr}{i:Nat}{items:Array Value}{Q:Value->Shared->Prop}(hh:A.handled=none) (hit:KIt b s.heap it l i) (hl:KSq b s.heap l items) (hx:items[i]?=none)
  (hE:∀h' e,Heap.ExtBut it s.heap h'->(∃o,h'.get? e=some o/\o.cls=.type "StopIteration")->E (.ref e) { s with heap:=h' }):wpAny (model prog w) A (Builtin.SmallTypes.nextOf (.ref it)) Q E s:=by
 cases b with
 | false=>exact wpAny_nextOf_list_end hh hit hl hx hE
 | true=>
  obtain⟨o,ho,hc,hd⟩:=id hit
  obtain⟨ol,hol,_,nl,hdl⟩:=hl
  have hT:s.TypeIs (.ref it) "tuple_iterator":=⟨o,ho,hc⟩
  unfold Builtin.SmallTypes.nextOf
  refine xc (vI hT yh (xS yh hT F.entry_tuple_iterator_next ?_ (F.args_tuple_iterator_next_1 _)))
  refine(show wpAny _ _ (field (.ref it) 0 >>= _) _ _ s from xc (xR ho hd rfl (show wpAny _ _ (if(Value.ref l == Value.none)=true then _ else _) _ _ s from ?_)))
  rw[xh (show ¬ ((Value.ref l == Value.none)=true)from xY)]
  refine(xc (xR ho hd rfl (xc (vz hol hdl ?_))))
  simp only[Int.toNat_natCast,hx]
  refine xc (xX (xc (wpAny_setField ho hd (by simp) (xc ?_))))
  simp only[newExc,newTuple]
  refine xc (ve (xc (wpAny_of_eq (by first|rfl|(simp only[firstArgMember];rfl)) (ve ?_ (by size_fits)))) (by size_fits))
  simp only[raiseNew]
  refine xc (wpAny_handled ?_);rw[show A.in1.handled=none from hh]
  refine xc (xf (wpAny_throw ?_))
  exact hE _ _ (((vF ..).extBut.push _).push _) ⟨_,xD _ rfl,rfl⟩
theorem zQv {b1 b2:Bool}{z TI TO i1 i2 l1 l2:Addr}{k1 k2:Nat}{xs ys:Array Value}{x y a b:Value}{Q:Option Value->Shared->Prop}(D:ZipApart z TI TO i1 i2 l1 l2)
  (hz:IsZip s.heap z TI TO .none) (hTI:IsPair s.heap TI (.ref i1) (.ref i2)) (hTO:IsPair s.heap TO a b) (h1:KIt b1 s.heap i1 l1 k1) (h2:KIt b2 s.heap i2 l2 k2) (q1:KSq b1 s.heap l1 xs) (q2:KSq b2 s.heap l2 ys) (hx:xs[k1]?=some x) (hy:ys[k2]?=some y)
  (hQ:∀h',IsZip h' z TI TO (rawInt s.heap.objs.size)->IsPair h' TO x y->KIt b1 h' i1 l1 (k1+1)->KIt b2 h' i2 l2 (k2+1)->IsPair h' s.heap.objs.size x y->(∀c o,c≠z->c≠TO->c≠i1->c≠i2->s.heap.get? c=some o->h'.get? c=some o)->Q (some (.ref s.heap.objs.size)) { s with heap:=h' }):
  wpAny (model prog w) A (pyNext (.ref z)) Q E s:=by
 have hT:s.TypeIs (.ref z) "zip":=⟨_,hz,rfl⟩
 unfold pyNext
 refine xc (wpAny_attempt (vI hT F.slot_zip_next (xS F.slot_zip_next hT F.entry_zip_next ?_ (F.args_zip_next_1 _))))
 refine(show wpAny _ _ (field (.ref z) 2 >>= _) _ _ _ from xc (xR hz rfl rfl (xc (xR hz rfl rfl (xc (vz hTI rfl (xc ?_)))))))
 unfold Builtin.SmallTypes.ownedTupleIsFree;refine xc (xR hz rfl rfl (xf ?_));simp only[xo]
 refine xc (xX (xc (xR hz rfl rfl (xc (uJ hz (by simp) fun g1 z1 s1=>xc ?_)))))
 replace z1:IsZip g1 z TI TO .ellipsis:=z1
 simp only[List.zipIdx_cons,List.zipIdx_nil,uR,List.forIn_nil]
 refine xc (xc (wpAny_onRaise (xc (next_item (h1.xb s1.extBut D.i1z) (q1.xb s1.extBut D.l1z) hx fun g2 h12 s2=>xf ?_))))
 have T2:=s2.extBut _ _ D.TOi1 (s1.extBut _ _ D.TOz hTO)
 refine xc (vz T2 rfl (xc (wpAny_updateSeq_pair T2 fun g3 T3 s3=>xc (wpAny_letGo (xf ?_)))))
 replace T3:IsPair g3 TO x b:=T3
 refine xc (xc (wpAny_onRaise (xc (next_item (((h2.xb s1.extBut D.i2z).xb s2.extBut D.i12.symm).xb s3.extBut D.TOi2.symm) (((q2.xb s1.extBut D.l2z).xb s2.extBut D.l2i1).xb s3.extBut D.l2TO) hy fun g4 h24 s4=>xf ?_))))
 have T4:=s4.extBut _ _ D.TOi2 T3
 refine xc (vz T4 rfl (xc (wpAny_updateSeq_pair T4 fun g5 T5 s5=>xc (wpAny_letGo (xf (xf ?_))))))
 replace T5:IsPair g5 TO x y:=T5
 refine xc (vz T5 rfl (xc (wpAny_newTuple ?_)))
 have sz:g5.objs.size=s.heap.objs.size:=by rw[s5.1,s4.1,s3.1,s2.1,s1.1]
 have z5:=s5.extBut _ _ D.TOz.symm (s4.extBut _ _ D.i2z.symm (s3.extBut _ _ D.TOz.symm (s2.extBut _ _ D.i1z.symm z1)))
 have k5:∀c o,c≠z->c≠TO->c≠i1->c≠i2->s.heap.get? c=some o->g5.get? c=some o:=fun c o c1 c2 c3 c4 e=>s5.extBut _ _ c2 (s4.extBut _ _ c4 (s3.extBut _ _ c2 (s2.extBut _ _ c3 (s1.extBut _ _ c1 e))))
 have a5:=((h12.xb s3.extBut D.TOi1.symm).xb s4.extBut D.i12).xb s5.extBut D.TOi1.symm
 have b5:=h24.xb s5.extBut D.TOi2.symm
 have zlt:=xl z5
 refine(xc ?_)
 unfold Builtin.SmallTypes.ownedTupleHandOut
 have z6:IsZip (g5.push { cls:=.type "tuple",data:=.seq #[x,y] }) z TI TO .ellipsis:=xm _ z5
 refine xc (uJ z6 (by simp) fun g7 z7 s7=>?_)
 replace z7:IsZip g7 z TI TO (rawInt g5.objs.size):=z7
 refine uJ z7 (by simp) fun g8 z8 s8=>?_
 replace z8:IsZip g8 z TI TO (rawInt g5.objs.size):=z8
 have up:∀c o,c≠z->g5.get? c=some o->g8.get? c=some o:=fun c o c1 e=>s8.extBut _ _ c1 (s7.extBut _ _ c1 (xm _ e))
 have T8:=s8.extBut _ _ (vR zlt) (s7.extBut _ _ (vR zlt) (xD _ rfl))
 rw[sz]at z8 T8
 refine xf ⟨_,rfl,?_⟩
 show wpAny _ _ (pure (some (Value.ref g5.objs.size))) _ _ _
 rw[sz]
 exact xf (hQ g8 z8 (up _ _ D.TOz T5) (a5.at fun o e=>up _ o D.i1z e) (b5.at fun o e=>up _ o D.i2z e) T8 fun c o c1 c2 c3 c4 e=>up c o c1 (k5 c o c1 c2 c3 c4 e))
theorem zU9 {b1 b2:Bool}{z TI TO i1 i2 l1 l2:Addr}{k1 k2:Nat}{xs ys:Array Value}{a b:Value}{Q:Option Value->Shared->Prop}(hh:A.handled=none) (D:ZipApart z TI TO i1 i2 l1 l2)
  (hz:IsZip s.heap z TI TO .none) (hTI:IsPair s.heap TI (.ref i1) (.ref i2)) (hTO:IsPair s.heap TO a b) (h1:KIt b1 s.heap i1 l1 k1) (h2:KIt b2 s.heap i2 l2 k2) (q1:KSq b1 s.heap l1 xs) (q2:KSq b2 s.heap l2 ys) (hend:xs[k1]?=none\/ys[k2]?=none)
  (hQ:∀h',(∀c o,c≠z->c≠TO->c≠i1->c≠i2->s.heap.get? c=some o->h'.get? c=some o)->Q none { s with heap:=h' }):wpAny (model prog w) A (pyNext (.ref z)) Q E s:=by
 have hT:s.TypeIs (.ref z) "zip":=⟨_,hz,rfl⟩
 unfold pyNext
 have stop:∀(g:Heap) (e:Addr),(∀c o,c≠z->c≠TO->c≠i1->c≠i2->s.heap.get? c=some o->g.get? c=some o)->(∃o,g.get? e=some o/\o.cls=.type "StopIteration")->wpAny (model prog w) A (do
   let b <- isInstance (.ref e) (.type "StopIteration")
   if b=true then pure none else throw (.ref e)) Q E { s with heap:=g }:=fun g e kp hz0=>by obtain⟨o,ho,hc⟩:=hz0;exact xc (vT ⟨o,ho,hc⟩ isSubtype_stop (xf (hQ _ kp)))
 refine xc (wpAny_attempt (vI hT F.slot_zip_next (xS F.slot_zip_next hT F.entry_zip_next ?_ (F.args_zip_next_1 _))))
 refine(show wpAny _ _ (field (.ref z) 2 >>= _) _ _ _ from xc (xR hz rfl rfl (xc (xR hz rfl rfl (xc (vz hTI rfl (xc ?_)))))))
 unfold Builtin.SmallTypes.ownedTupleIsFree;refine xc (xR hz rfl rfl (xf ?_));simp only[xo]
 refine xc (xX (xc (xR hz rfl rfl (xc (uJ hz (by simp) fun g1 z1 s1=>xc ?_)))))
 replace z1:IsZip g1 z TI TO .ellipsis:=z1
 simp only[List.zipIdx_cons,List.zipIdx_nil,uR,List.forIn_nil]
 have hhi:=hh
 refine xc (xc (wpAny_onRaise (xc ?_)))
 cases hx:xs[k1]? with
 | none=>
  refine next_end hhi (h1.xb s1.extBut D.i1z) (q1.xb s1.extBut D.l1z) hx fun g2 e s2 he=>?_
  obtain⟨oe,hoe,hce⟩:=he
  have z2:=s2 _ _ D.i1z.symm z1
  have ne:e≠z:=fun x=>by subst x;rw[z2]at hoe;cases hoe;simp at hce
  exact uJ z2 (by simp) fun g3 _ s3=>stop g3 e (fun c o c1 _ c3 _ x=>s3.extBut _ _ c1 (s2 _ _ c3 (s1.extBut _ _ c1 x))) ⟨oe,s3.extBut _ _ ne hoe,hce⟩
 | some x=>
  have hy:ys[k2]?=none:=by rcases hend with h|h;rw[hx]at h;cases h;exact h
  refine next_item (h1.xb s1.extBut D.i1z) (q1.xb s1.extBut D.l1z) hx fun g2 h12 s2=>xf ?_
  have T2:=s2.extBut _ _ D.TOi1 (s1.extBut _ _ D.TOz hTO)
  refine xc (vz T2 rfl (xc (wpAny_updateSeq_pair T2 fun g3 T3 s3=>xc (wpAny_letGo (xf ?_)))))
  refine xc (xc (wpAny_onRaise (xc (next_end hhi (((h2.xb s1.extBut D.i2z).xb s2.extBut D.i12.symm).xb s3.extBut D.TOi2.symm) (((q2.xb s1.extBut D.l2z).xb s2.extBut D.l2i1).xb s3.extBut D.l2TO) hy fun g4 e s4 he=>?_))))
  obtain⟨oe,hoe,hce⟩:=he
  have z4:=s4 _ _ D.i2z.symm (s3.extBut _ _ D.TOz.symm (s2.extBut _ _ D.i1z.symm z1))
  have ne:e≠z:=fun x=>by subst x;rw[z4]at hoe;cases hoe;simp at hce
  exact uJ z4 (by simp) fun g5 _ s5=>stop g5 e (fun c o c1 c2 c3 c4 x=>s5.extBut _ _ c1 (s4 _ _ c4 (s3.extBut _ _ c2 (s2.extBut _ _ c3 (s1.extBut _ _ c1 x))))) ⟨oe,s5.extBut _ _ ne hoe,hce⟩
end
end TS
namespace TS
open PySem
noncomputable abbrev itO (b:Bool) (l:Addr):Obj:={ cls:=.type (if b then "tuple_iterator" else "list_iterator"),data:=.fields #[.ref l,.int 0 0] }
section
variable {prog:Program}{w:World}{A:Around}{E:Value->Shared->Prop}{s:Shared}
theorem zQc {b:Bool}{l:Addr}{xs:Array Value}{Q:Value->Shared->Prop}(q:KSq b s.heap l xs) (h:Q (.ref s.heap.objs.size) { s with heap:=s.heap.push (itO b l) }):wpAny (model prog w) A (pyIter (.ref l)) Q E s:=by
 cases b with
 | false=>exact uV q h
 | true=>exact wpAny_pyIter_tuple q h
end
noncomputable abbrev kz1 (b1 b2:Bool) (h:Heap) (l1 l2:Addr):Heap:=(h.push (itO b1 l1)).push (itO b2 l2)
noncomputable abbrev kz2 (b1 b2:Bool) (h:Heap) (l1 l2:Addr):Heap:=(kz1 b1 b2 h l1 l2).push { cls:=.type "tuple",data:=.seq #[.ref h.objs.size,.ref (h.push (itO b1 l1)).objs.size] }
noncomputable abbrev kz3 (b1 b2:Bool) (h:Heap) (l1 l2:Addr):Heap:=(kz2 b1 b2 h l1 l2).push { cls:=.type "tuple",data:=.seq #[.none,.none] }
noncomputable abbrev kz4 (b1 b2:Bool) (h:Heap) (l1 l2:Addr):Heap:=(kz3 b1 b2 h l1 l2).push { cls:=.type "zip",data:=.fields #[.none,.bool false,.bool false,.ref (kz1 b1 b2 h l1 l2).objs.size,.ref (kz2 b1 b2 h l1 l2).objs.size] }
theorem zW6 (b1 b2:Bool) (l1 l2:Addr) (xs ys:Array Value):Meets (Builtin.«zip.__new__» ⟨[.type "zip",.ref l1,.ref l2],[]⟩) (fun _ R s=>KSq b1 s.heap l1 xs/\KSq b2 s.heap l2 ys/\R (.ok (.ret (.ref (kz3 b1 b2 s.heap l1 l2).objs.size))) { s with heap:=kz4 b1 b2 s.heap l1 l2 }):=
 .of_wp fun prog w A R s h=>by
  obtain⟨hp,g,d,tk,os⟩:=s;obtain⟨q1,q2,h⟩:=h
  have hsub:=sub_zip
  have L1:=q1
  have L2:KSq b2 (Shared.heap ⟨hp.push (itO b1 l1),g,d,tk,os⟩) l2 ys:=q2.at fun o e=>xm _ e
  wp_walk using zQc L1,zQc L2
  exact⟨_,rfl,h⟩
section
variable {prog:Program}{w:World}{A:Around}{E:Value->Shared->Prop}{s:Shared}
theorem zSr {b1 b2:Bool}{l1 l2:Addr}{xs ys:Array Value}{Q:Value->Shared->Prop}(q1:KSq b1 s.heap l1 xs) (q2:KSq b2 s.heap l2 ys)
  (h:∀h',IsZip h' (s.heap.objs.size+4) (s.heap.objs.size+2) (s.heap.objs.size+3) .none->IsPair h' (s.heap.objs.size+2) (.ref s.heap.objs.size) (.ref (s.heap.objs.size+1))->
   IsPair h' (s.heap.objs.size+3) .none .none->KIt b1 h' s.heap.objs.size l1 0->KIt b2 h' (s.heap.objs.size+1) l2 0->(∀c o,s.heap.get? c=some o->h'.get? c=some o)->Q (.ref (s.heap.objs.size+4)) { s with heap:=h' }):
  wpAny (model prog w) A (call (.type "zip") [.ref l1,.ref l2]) Q E s:=by
 refine callType_new F.called_zip (by decide) (F.typeCall_zip_2 _ _) (F.newCall_zip_2 _ _) (fun obj=>F.args_object_init_3 obj _ _) F.entry_zip_new (zW6 b1 b2 l1 l2 xs ys) ⟨q1,q2,?_⟩
 have z0:(s.heap.push (itO b1 l1)).objs.size=s.heap.objs.size+1:=vy ..
 have z1:(kz1 b1 b2 s.heap l1 l2).objs.size=s.heap.objs.size+2:=by rw[vy,z0]
 have z2:(kz2 b1 b2 s.heap l1 l2).objs.size=s.heap.objs.size+3:=by rw[vy,z1]
 have z3:(kz3 b1 b2 s.heap l1 l2).objs.size=s.heap.objs.size+4:=by rw[vy,z2]
 have g5:(kz4 b1 b2 s.heap l1 l2).get? (kz3 b1 b2 s.heap l1 l2).objs.size=some _:=xD _ rfl
 have g4:(kz4 b1 b2 s.heap l1 l2).get? (kz2 b1 b2 s.heap l1 l2).objs.size=some _:=xm _ (xD _ rfl)
 have g3:(kz4 b1 b2 s.heap l1 l2).get? (kz1 b1 b2 s.heap l1 l2).objs.size=some _:=xm _ (xm _ (xD _ rfl))
 have g2:(kz4 b1 b2 s.heap l1 l2).get? (s.heap.push (itO b1 l1)).objs.size=some (itO b2 l2):=xm _ (xm _ (xm _ (xD _ (by cases b2 <;> rfl))))
 have g1:(kz4 b1 b2 s.heap l1 l2).get? s.heap.objs.size=some (itO b1 l1):=xm _ (xm _ (xm _ (xm _ (xD _ (by cases b1 <;> rfl)))))
 have gk:∀c o,s.heap.get? c=some o->(kz4 b1 b2 s.heap l1 l2).get? c=some o:=fun c o x=>xm _ (xm _ (xm _ (xm _ (xm _ x))))
 show _/\_
 rw[z3]at g5 ⊢
 rw[z1,z2]at g5
 rw[z1,z0]at g3
 rw[z2]at g4
 rw[z0]at g2
 exact⟨⟨_,g5,rfl⟩,h _ g5 g3 g4 ⟨_,g1,rfl,rfl⟩ ⟨_,g2,rfl,rfl⟩ gk⟩
end
end TS
namespace L2
open PySem PySem.Spec PyProof.Rows TS
noncomputable def hoK (b:Bool) (xs:List V):HO:=if b then .tup xs else .lst xs
noncomputable def Itk (b1 b2:Bool) (a b:Addr):It:=
  ⟨fun i H=>∃xs ys x y,H a=some (hoK b1 xs)/\H b=some (hoK b2 ys)/\xs[i]?=some x/\ys[i]?=some y,
   fun i H v H'=>∃T xs ys x y,v=.ref T/\H T=none/\H a=some (hoK b1 xs)/\H b=some (hoK b2 ys)/\xs[i]?=some x/\ys[i]?=some y/\H'=upd H T (.tup [x,y]),
   fun i H=>∃xs ys,H a=some (hoK b1 xs)/\H b=some (hoK b2 ys)/\(xs.length<=i\/ys.length<=i)⟩
theorem Inv.kSq {X:Cx}{pins:List (Addr × Obj)}{σ:St}{H:Hp}{s:Shared}{b:Bool}{a:Addr}{xs:List V}(I:Inv X pins σ H s) (h:H a=some (hoK b xs)):∃its:List Value,Vals xs its/\KSq b s.heap a its.toArray/\xs.length<=sizeLine:=by
 cases b with
 | false=>obtain⟨its,r,p,z⟩:=I.list (SqL.of h);exact⟨its,r,p.isList,z⟩
 | true=>obtain⟨its,r,p,z⟩:=I.tuple (SqT.of h);exact⟨its,r,p,z⟩
theorem zUf {P:Program}{w:World}{K:PySem.W.Frag}{es:List Expr}{k:Nat}{pos:Pos}(b1 b2:Bool) (a b z TI TO i1 i2:Addr) (D:ZipOwn z TI TO i1 i2):
  Turn P w K (.Tuple es k pos) (Itk b1 b2 a b) [z,TI,TO,i1,i2] z (fun i h=>IsZip h z TI TO .none/\IsPair h TI (.ref i1) (.ref i2)/\(∃p q,IsPair h TO p q)/\KIt b1 h i1 a i/\KIt b2 h i2 b i) where
 mem:=by simp
 obj:=fun i h st c hc=>by
  obtain⟨hz,hTI,⟨p,q,hTO⟩,⟨o1,e1,c1,d1⟩,⟨o2,e2,c2,d2⟩⟩:=st
  simp only[xn,vN,or_false]at hc
  rcases hc with rfl|rfl|rfl|rfl|rfl
  ·exact⟨_,hz,fun v z=>by cases z⟩
  ·exact⟨_,hTI,fun v z=>by cases z⟩
  ·exact⟨_,hTO,fun v z=>by cases z⟩
  ·exact⟨_,e1,fun v z=>by rw[d1]at z;cases z⟩
  ·exact⟨_,e2,fun v z=>by rw[d2]at z;cases z⟩
 keep:=fun i h h' st kk=>by
  obtain⟨hz,hTI,⟨p,q,hTO⟩,h1,h2⟩:=st
  exact⟨kk z (by simp) _ hz,kk TI (by simp) _ hTI,⟨p,q,kk TO (by simp) _ hTO⟩,h1.at fun o e=>kk i1 (by simp) o e,h2.at fun o e=>kk i2 (by simp) o e⟩
 item:=by
  intro X hP hw hK hc i pins s σ H E I hf st hg
  subst hP hw hK
  obtain⟨xs,ys,x,y,ha,hb,hx,hy⟩:=hg
  obtain⟨hz,hTI,⟨p,q,hTO⟩,h1,h2⟩:=st
  obtain⟨its,rv,p1,z1⟩:=I.kSq ha
  obtain⟨jts,rw',p2,z2⟩:=I.kSq hb
  obtain⟨u,hu,ru⟩:=rv.get hx
  obtain⟨v,hv,rv'⟩:=rw'.get hy
  have na:a ∉ [z,TI,TO,i1,i2]:=fun m=>by rw[(hf a m).1]at ha;cases ha
  have nb:b ∉ [z,TI,TO,i1,i2]:=fun m=>by rw[(hf b m).1]at hb;cases hb
  have hfr:=I.hok.fresh (xi _)
  have zlt:=xl hz
  refine zQv (D.apart na nb) hz hTI hTO h1 h2 p1 p2 (by simpa using hu) (by simpa using hv) fun h' a1 a2 a3 a4 a5 hk=>?_
  refine⟨_,rfl,wpAny_letOwnedTupleGo_zip a1 fun h2' hz' hs'=>?_⟩
  have hT:=hs'.extBut _ _ (vR zlt) a5
  refine⟨.ref s.heap.objs.size,upd H s.heap.objs.size (.tup [x,y]),I.turnedT hf (fun c o hc e=>?_) (xi _) ⟨by show 2<=sizeLine;decide,[u,v],.cons ru (.cons rv' .nil),⟨_,hT,rfl,_,rfl⟩⟩,rfl,
   ⟨_,xs,ys,x,y,rfl,hfr,ha,hb,hx,hy,rfl⟩,⟨hz',hs'.extBut _ _ D.TIz (hk _ _ D.TIz D.TITO D.TIi1 D.TIi2 hTI),⟨_,_,hs'.extBut _ _ D.TOz a2⟩,a3.xb hs'.extBut D.i1z,a4.xb hs'.extBut D.i2z⟩,fun c hc=>?_⟩
  ·simp only[xn,vN,or_false,not_or]at hc
   exact hs'.extBut _ _ hc.1 (hk _ _ hc.1 hc.2.2.1 hc.2.2.2.1 hc.2.2.2.2 e)
  ·have hn:=(hf c hc).1
   have ne:c≠s.heap.objs.size:=by
    obtain⟨o1,e1,_⟩:=h1
    obtain⟨o2,e2,_⟩:=h2
    simp only[xn,vN,or_false]at hc
    rcases hc with rfl|rfl|rfl|rfl|rfl
    ·exact xr (xl hz)
    ·exact xr (xl hTI)
    ·exact xr (xl hTO)
    ·exact xr (xl e1)
    ·exact xr (xl e2)
   rw[zA7 ne];exact hn
 done:=by
  intro X hP hw hK hc i pins s σ H E I hf st hg
  subst hP hw hK
  obtain⟨xs,ys,ha,hb,hx⟩:=hg
  obtain⟨hz,hTI,⟨p,q,hTO⟩,h1,h2⟩:=st
  obtain⟨its,rv,p1,z1⟩:=I.kSq ha
  obtain⟨jts,rw',p2,z2⟩:=I.kSq hb
  have na:a ∉ [z,TI,TO,i1,i2]:=fun m=>by rw[(hf a m).1]at ha;cases ha
  have nb:b ∉ [z,TI,TO,i1,i2]:=fun m=>by rw[(hf b m).1]at hb;cases hb
  have l1:=rv.length
  have l2:=rw'.length
  refine zU9 (I.ok.hd hc) (D.apart na nb) hz hTI hTO h1 h2 p1 p2 ?_ fun h' hk=>⟨rfl,I.turnedL hf fun c o hc e=>?_⟩
  ·rcases hx with hx|hx
   ·exact .inl (by simp;lia)
   ·exact .inr (by simp;lia)
  ·simp only[xn,vN,or_false,not_or]at hc
   exact hk _ _ hc.1 hc.2.2.1 hc.2.2.2.1 hc.2.2.2.2 e
 self:=fun _ _ _ _ _ st h=>wpAny_pyIter_zip st.1 h
section
variable {X:Cx}{tg:Expr}
noncomputable def iZk (b1 b2:Bool) (ta:TA):TI:=fun σ H R=>ta σ H fun vs H1=>∃a b,vs=[.ref a,.ref b]/\(∃xs,H1 a=some (hoK b1 xs))/\(∃ys,H1 b=some (hoK b2 ys))/\R (Itk b1 b2 a b) H1
theorem zYd (b1 b2:Bool) {a b:Expr}{es:List Expr}{k:Nat}{tpos:Pos}{ta:TA}{p pos:Pos}(hg:Gl X "zip") (hm:X.mg "zip"=none) (ha:PA X [a,b] ta) (hs:starEach [a,b] X.env=[(false,eval a X.env),(false,eval b X.env)]:=by rfl) (hs2:starEach [b] X.env=[(false,eval b X.env)]:=by rfl):
  PI X (.Tuple es k tpos) (.Call (.Name "zip" p) [a,b] [] pos) (iZk b1 b2 ta):=by
 intro pins s σ H R I h
 refine Call_ (zBm I hg hm PyProof.Rows.boot_zip (v3 (thn (ha pos pins s σ H _ I h) fun us s1 ⟨vs,H1,I1,r1,q1⟩=>?_) (by rw[hs,hs2]) (by rw[hs2];rfl)))
 obtain⟨l1,l2,e,⟨xs,ha1⟩,⟨ys,hb1⟩,q⟩:=q1
 subst e
 obtain⟨u1,u2,rfl,rfl,rfl⟩:=vals2 r1
 obtain⟨its,rv,p1,z1⟩:=I1.kSq ha1
 obtain⟨jts,rw',p2,z2⟩:=I1.kSq hb1
 refine zSr p1 p2 fun h' c1 c2 c3 c4 c5 hk=>?_
 refine wpAny_pyIter_zip c1 ?_
 have DZ:∀n:Nat,ZipOwn (n+4) (n+2) (n+3) n (n+1):=fun n=>by constructor <;> exact fun e=>absurd (e) (by nofun)
 refine⟨_,[s1.heap.objs.size+4,s1.heap.objs.size+2,s1.heap.objs.size+3,s1.heap.objs.size,s1.heap.objs.size+1],_,_,H1,rfl,I1.kept hk,zUf b1 b2 l1 l2 _ _ _ _ _ (DZ _),⟨c1,c2,⟨_,_,c3⟩,c4,c5⟩,fun c hc=>?_,q⟩
 have hle:s1.heap.objs.size<=c:=by
  simp only[xn,vN,or_false]at hc
  rcases hc with rfl|rfl|rfl|rfl|rfl
  ·exact u0 _ _
  ·exact u0 _ _
  ·exact u0 _ _
  ·exact xi _
  ·exact u0 _ _
 exact I1.fpOk hle (I1.hok.fresh hle)
end
section
variable {X:Cx}{a b:Expr}{p pos:Pos}
theorem qzk (b1 b2:Bool) {es:List Expr}{k:Nat}{tpos:Pos}{ta:TA}(hg:Gl X "zip") (hm:X.mg "zip"=none) (ha:SA X [a,b] ta) (hs:starEach [a,b] X.env=[(false,eval a X.env),(false,eval b X.env)]:=by rfl) (hs2:starEach [b] X.env=[(false,eval b X.env)]:=by rfl):
  SI X (.Tuple es k tpos) (.Call (.Name "zip" p) [a,b] [] pos) (iZk b1 b2 ta):=⟨zYd b1 b2 hg hm ha.h hs hs2⟩
end
section
variable {A:TA}{σ σc:St}{H:Hp}{g:TG}{tt:TT}{te:TE}{Qd:List V->Hp->Prop}
theorem zM2 {b:Bool}{xs ys:List V}(h:hoK b xs=hoK b ys):xs=ys:=by
 cases b with
 | false=>exact HO.lst.inj h
 | true=>exact HO.tup.inj h
end
end L2
namespace L2
open PySem PySem.Spec PyProof.Rows TS
section
variable {X:Cx}{K:PySem.W.Frag}
noncomputable def Its (x:Str):It:=⟨fun i _=>i<x.cps.size,fun i H v H'=>H'=H/\∃c,x.cps[i]?=some c/\v=.str ⟨#[c]⟩,fun i _=>x.cps.size<=i⟩
theorem zNi {P:Program}{w:World}{tg:Expr}(it:Addr) (x:Str) (t:Tok):Turn P w K tg (Its x) [it] it (fun i h=>i<=x.cps.size/\h.IsStrIter it "str_ascii_iterator" x t i) where
 mem:=by simp
 obj:=fun i h st b hb=>by
  have e:b=it:=by simpa using hb
  subst e
  obtain⟨_,o,e,c,d⟩:=st
  exact⟨o,e,fun v z=>by rw[d]at z;cases z⟩
 keep:=fun i h h' st k=>⟨st.1,let ⟨o,ho,r⟩:=st.2;⟨o,k it (by simp) o ho,r⟩⟩
 item:=by
  intro X hP hw hK hc i pins s σ H E I hf st hg
  subst hP hw hK
  obtain⟨f0,f1,f2,f3,f4,f5⟩:=hf it (by simp)
  have hg:i<x.cps.size:=hg
  refine wpAny_pyNext_ascii_item st.2 (c:=x.cps[i]) (by simp[hg]) fun h' st' sb=>?_
  have I1:=I.turned (t':=s.toks+1) (fun b o hb e=>(sb.2 b hb).trans e) f0 f1 f3 f4 f5
  obtain⟨o,e,c,d⟩:=id st'
  exact⟨_,rfl,zP7 e c d (by decide) ⟨.str ⟨#[x.cps[i]]⟩,H,I1,⟨_,rfl⟩,⟨rfl,_,by simp[hg],rfl⟩,⟨hg,st'⟩,fun b hb=>(hf b hb).1⟩⟩
 done:=by
  intro X hP hw hK hc i pins s σ H E I hf st hg
  subst hP hw hK
  obtain⟨f0,f1,f2,f3,f4,f5⟩:=hf it (by simp)
  have hg:x.cps.size<=i:=hg
  exact wpAny_pyNext_ascii_end (I.ok.hd hc) st.2 (by simp[hg]) fun h' eb=>⟨rfl,I.turned (fun b o hb e=>eb b o hb e) f0 f1 f3 f4 f5⟩
 self:=fun _ _ _ _ _ st h=>wpAny_pyIter_striter_ascii st.2 h
end
end L2
namespace DS
open PySem (Str)
inductive D where
 | non|bl (b:Bool)|int (i:Int)|str (x:Str)|ty (n:String)
 | tup (l:List D)|ktup (l:List D)|lst (l:List D)|klst (l:List D)|dct (t:Bool) (ks vs:List D)|st (l:List D)
 | ref (n:Nat)
noncomputable abbrev Store:=List D
noncomputable abbrev Env:=List (Option D)
structure Exn where
 cls:Str
 fs:List (Str × D)
inductive Rs (α:Type) where
 | ok (a:α) (S:Store)|ex (x:Exn) (S:Store)|bad
inductive SR where
 | nx (e:Env) (S:Store)|rt (d:D) (S:Store)|bk (e:Env) (S:Store)|ct (e:Env) (S:Store)|ex (x:Exn) (S:Store)|bad
noncomputable def Rs.bind {α β:Type}(r:Rs α) (k:α->Store->Rs β):Rs β:=match r with
 | .ok a S=>k a S
 | .ex x S=>.ex x S
 | .bad=>.bad
@[simp] theorem Rs.bind_ok {α β:Type}{a:α}{S:Store}{k:α->Store->Rs β}:(Rs.ok a S).bind k=k a S:=rfl
@[simp] theorem Rs.bind_ex {α β:Type}{x:Exn}{S:Store}{k:α->Store->Rs β}:(Rs.ex x S:Rs α).bind k=.ex x S:=rfl
@[simp] theorem Rs.bind_bad {α β:Type}{k:α->Store->Rs β}:(Rs.bad:Rs α).bind k=.bad:=rfl
noncomputable def Rs.then {α:Type}(r:Rs α) (k:α->Store->SR):SR:=match r with
 | .ok a S=>k a S
 | .ex x S=>.ex x S
 | .bad=>.bad
@[simp] theorem Rs.then_ok {α:Type}{a:α}{S:Store}{k:α->Store->SR}:(Rs.ok a S).then k=k a S:=rfl
@[simp] theorem Rs.then_ex {α:Type}{x:Exn}{S:Store}{k:α->Store->SR}:(Rs.ex x S:Rs α).then k=.ex x S:=rfl
@[simp] theorem Rs.then_bad {α:Type}{k:α->Store->SR}:(Rs.bad:Rs α).then k=.bad:=rfl
noncomputable def lift {α:Type}(o:Option α) (S:Store):Rs α:=match o with
 | some a=>.ok a S
 | none=>.bad
@[simp] theorem zAf {α:Type}{a:α}{S:Store}:lift (some a) S=.ok a S:=rfl
@[simp] theorem zW5 {α:Type}{S:Store}:lift (none:Option α) S=.bad:=rfl
noncomputable def zSo {α:Type}(o:Option (α × Store)):Rs α:=match o with
 | some a=>.ok a.1 a.2
 | none=>.bad
@[simp] theorem zEc {α:Type}{a:α × Store}:zSo (some a)=.ok a.1 a.2:=rfl
@[simp] theorem zU8 {α:Type}:zSo (none:Option (α × Store))=.bad:=rfl
mutual
/-- all refs are below n -/
noncomputable def D.low (n:Nat):D->Bool
 | .ref m=>decide (m<n)
 | .tup l=>lowL n l
 | .lst l=>lowL n l
 | .ktup l=>lowL n l
 | .klst l=>lowL n l
 | .dct _ ks vs=>lowL n ks && lowL n vs
 | .st l=>lowL n l
 | .non=>true
 | .bl _=>true
 | .int _=>true
 | .str _=>true
 | .ty _=>true
noncomputable def lowL (n:Nat):List D->Bool
 | []=>true
 | d::r=>d.low n && lowL n r
end
mutual
/-- numbers,texts,truths,None,tuples and lists of them -/
noncomputable def D.flat:D->Bool
 | .ref _=>false
 | .tup l=>zC5 l
 | .lst l=>zC5 l
 | .dct _ _ _=>false
 | .ktup _=>false
 | .klst _=>false
 | .st _=>false
 | .ty _=>false
 | .non=>true
 | .bl _=>true
 | .int _=>true
 | .str _=>true
noncomputable def zC5:List D->Bool
 | []=>true
 | d::r=>d.flat && zC5 r
end
mutual
/-- they may be compared: of one kind wherever == looks;no refs -/
noncomputable def D.cmp:D->D->Bool
 | .non,.non=>true
 | .bl _,.bl _=>true
 | .int _,.int _=>true
 | .str _,.str _=>true
 | .tup a,.tup b=>cmpL a b
 | .lst a,.lst b=>cmpL a b
 | _,_=>false
noncomputable def cmpL:List D->List D->Bool
 | a::r,b::t=>a.cmp b && cmpL r t
 | _,_=>true
end
mutual
noncomputable def D.dep:D->Nat
 | .tup l=>depL l+1
 | .lst l=>depL l+1
 | .dct _ _ _=>0
 | .ktup _=>0
 | .klst _=>0
 | .st _=>0
 | .non=>0
 | .bl _=>0
 | .int _=>0
 | .str _=>0
 | .ty _=>0
 | .ref _=>0
noncomputable def depL:List D->Nat
 | []=>0
 | d::r=>max d.dep (depL r)
end
noncomputable section
open Classical
noncomputable def look (S:Store):D->Option D
 | .ref n=>S[n]?
 | .ktup l=>some (.tup l)
 | .klst l=>some (.lst l)
 | d=>some d
noncomputable def items (S:Store) (d:D):Option (List D):=match look S d with
 | some (.tup l)=>some l
 | some (.lst l)=>some l
 | _=>none
noncomputable def litems (S:Store) (d:D):Option (List D):=match d with
 | .klst _=>none
 | d=>match look S d with
  | some (.lst l)=>some l
  | _=>none
noncomputable abbrev EM:=Env->Store->Rs D
noncomputable abbrev TM:=Env->Store->Rs Bool
noncomputable abbrev AM:=Env->Store->Rs (List D)
noncomputable abbrev SM:=Env->Store->SR
noncomputable abbrev GM:=Store->D->Env->Option Env
noncomputable abbrev Fn:=List D->Store->Rs D
noncomputable def eVar (i:Nat):EM:=fun env S=>match env[i]? with
 | some (some d)=>.ok d S
 | _=>.bad
noncomputable def eC (d:D):EM:=fun _ S=>.ok d S
noncomputable def eOp (g:Store->D->D->Option D) (a b:EM):EM:=fun env S=>(a env S).bind fun x S1=>(b env S1).bind fun y S2=>lift (g S2 x y) S2
noncomputable def eUn (g:Store->D->Option D) (a:EM):EM:=fun env S=>(a env S).bind fun x S1=>lift (g S1 x) S1
noncomputable def aNil:AM:=fun _ S=>.ok [] S
noncomputable def zA0 (a:EM) (r:AM):AM:=fun env S=>(a env S).bind fun x S1=>(r env S1).bind fun xs S2=>.ok (x::xs) S2
noncomputable def eTup (a:AM):EM:=fun env S=>(a env S).bind fun xs S1=>.ok (.tup xs) S1
noncomputable def eLst (a:AM):EM:=fun env S=>(a env S).bind fun xs S1=>.ok (.lst xs) S1
noncomputable def zPc (ks:List D) (a:AM):EM:=fun env S=>(a env (S++[.dct false [] []])).bind fun vs S1=>if S1[S.length]?=some (.dct false [] [])then .ok (.ref S.length) (S1.set S.length (.dct false ks vs))else .bad
noncomputable def eNew (a:EM):EM:=fun env S=>(a env S).bind fun x S1=>.ok (.ref S1.length) (S1++[x])
noncomputable def eCB (g:Store->List D->Option D) (a:AM):EM:=fun env S=>(a env S).bind fun xs S1=>lift (g S1 xs) S1
noncomputable def zA9 (F:Fn) (a:AM):EM:=fun env S=>(a env S).bind fun xs S1=>F xs S1
noncomputable def tyD (S:Store) (d:D):Option String:=match look S d with
 | some (.str _)=>some "str"
 | some (.lst _)=>some "list"
 | some (.dct _ _ _)=>some "dict"
 | some (.tup _)=>some "tuple"
 | some (.int _)=>some "int"
 | some (.bl _)=>some "bool"
 | some .non=>some "NoneType"
 | some (.st _)=>some "set"
 | _=>none
noncomputable def eMt (T:String) (g:Store->D->List D->Option (D × Store)) (o:EM) (a:AM):EM:=fun env S=>(o env S).bind fun x S1=>if tyD S1 x=some T then(a env S1).bind fun xs S2=>zSo (g S2 x xs)else .bad
noncomputable def asI:D->Option Int
 | .int i=>some i
 | _=>none
noncomputable def pNo:Env->Store->Rs (Option Int):=fun _ S=>.ok none S
noncomputable def pYes (a:EM):Env->Store->Rs (Option Int):=fun env S=>(a env S).bind fun x S1=>lift ((asI x).map some) S1
noncomputable def eSl (g:Store->D->Option Int->Option Int->Option D) (a:EM) (lo hi:Env->Store->Rs (Option Int)):EM:=fun env S=>
 (a env S).bind fun x S1=>(lo env S1).bind fun l S2=>(hi env S2).bind fun h S3=>lift (g S3 x l h) S3
noncomputable def asB:D->Option Bool
 | .bl b=>some b
 | _=>none
noncomputable def tB (a:EM):TM:=fun env S=>(a env S).bind fun x S1=>lift (asB x) S1
noncomputable def most:Nat:=2 ^ 24
noncomputable def truth (S:Store) (d:D):Option Bool:=match look S d with
 | some (.bl b)=>some b
 | some (.int i)=>some (decide (i≠0))
 | some (.str x)=>if x.length<=most then some (decide (x.length≠0))else none
 | some (.tup l)=>some (decide (l≠[]))
 | some (.lst l)=>some (decide (l≠[]))
 | some .non=>some false
 | _=>none
noncomputable def tTru (a:EM):TM:=fun env S=>(a env S).bind fun x S1=>lift (truth S1 x) S1
noncomputable def tAnd (a b:TM):TM:=fun env S=>(a env S).bind fun c S1=>if c=true then b env S1 else .ok false S1
noncomputable def tOr (a b:TM):TM:=fun env S=>(a env S).bind fun c S1=>if c=true then .ok true S1 else b env S1
noncomputable def tNot (a:TM):TM:=fun env S=>(a env S).bind fun c S1=>.ok (!c) S1
noncomputable def tYes:TM:=fun _ S=>.ok true S
noncomputable def eAnd (a b:EM):EM:=fun env S=>(a env S).bind fun x S1=>(lift (asB x) S1).bind fun c S1=>if c=true then b env S1 else .ok (.bl false) S1
noncomputable def eOr (a b:EM):EM:=fun env S=>(a env S).bind fun x S1=>(lift (asB x) S1).bind fun c S1=>if c=true then .ok (.bl true) S1 else b env S1
noncomputable def eNot (a:EM):EM:=fun env S=>(a env S).bind fun x S1=>(lift (asB x) S1).bind fun c S1=>.ok (.bl (!c)) S1
noncomputable def eIf (c:TM) (a b:EM):EM:=fun env S=>(c env S).bind fun k S1=>if k=true then a env S1 else b env S1
structure Walk where
 its:List D
 gd:List (Nat × D)
noncomputable def gOk (S:Store) (gd:List (Nat × D)):Prop:=∀p∈gd,S[p.1]?=some p.2
noncomputable abbrev IM:=Env->Store->Rs Walk
noncomputable def gdOf (S:Store):D->List (Nat × D)
 | .ref n=>match S[n]? with
  | some d=>[(n,d)]
  | none=>[]
 | _=>[]
noncomputable def chars (x:Str):List D:=x.cps.toList.map fun c=>.str ⟨#[c]⟩
noncomputable def zC8 (S:Store) (d:D):Option Walk:=match look S d with
 | some (.tup l)=>some ⟨l,gdOf S d⟩
 | some (.lst l)=>some ⟨l,gdOf S d⟩
 | some (.str x)=>if x.cps.all (·<128)then some ⟨chars x,[]⟩else none
 | _=>none
noncomputable def iVal (a:EM):IM:=fun env S=>(a env S).bind fun x S1=>lift (zC8 S1 x) S1
noncomputable def fits62 (i:Int):Bool:=decide (-(2 ^ 62)<=i/\i<2 ^ 62)
noncomputable def zE6 (i j:Int):List D:=(List.range (j-i).toNat).map fun(k:Nat)=>.int (i+k)
noncomputable def zEy:List D->Option Walk
 | [.int j]=>if fits62 j then some ⟨zE6 0 j,[]⟩else none
 | [.int i,.int j]=>if fits62 i && fits62 j then some ⟨zE6 i j,[]⟩else none
 | _=>none
noncomputable def zIc (a:AM):IM:=fun env S=>(a env S).bind fun xs S1=>lift (zEy xs) S1
noncomputable def gName (i:Nat):GM:=fun _ d env=>some (env.set i (some d))
noncomputable def gAll:List GM->Store->List D->Env->Option Env
 | [],_,[],env=>some env
 | g::gs,S,d::ds,env=>match g S d env with
  | some env'=>gAll gs S ds env'
  | none=>none
 | _,_,_,_=>none
noncomputable def gTup (gs:List GM):GM:=fun S d env=>match items S d with
 | some l=>gAll gs S l env
 | none=>none
noncomputable def zBn (gd:List (Nat × D)) (g:GM) (c:TM) (e:EM):Nat->List D->Env->Store->Rs (List D)
 | _,[],_,S=>if gOk S gd then .ok [] S else .bad
 | k,d::r,env,S=>if gOk S gd/\k<most then(match g S d env with
  | some env'=>(c env' S).bind fun b S1=>if b=true then(e env' S1).bind fun v S2=>(zBn gd g c e (k+1) r env' S2).bind fun vs S3=>.ok (v::vs) S3 else zBn gd g c e k r env' S1
  | none=>.bad)else .bad
noncomputable def compEnv (own:Nat) (ix:List Nat) (env:Env):Env:=List.replicate own none++ix.map fun i=>(env[i]?).join
noncomputable def zAs (own:Nat) (ix:List Nat) (i:IM) (g:GM) (c:TM) (e:EM):EM:=fun env S=>
 (i env S).bind fun w S1=>(zBn w.gd g c e 0 w.its (compEnv own ix env) S1).bind fun vs S2=>.ok (.lst vs) S2
noncomputable def zCo:SM:=fun env S=>.nx env S
noncomputable def sSeq (a b:SM):SM:=fun env S=>match a env S with
 | .nx e S1=>b e S1
 | r=>r
noncomputable def sSet (i:Nat) (e:EM):SM:=fun env S=>(e env S).then fun d S1=>.nx (env.set i (some d)) S1
noncomputable def sUnp (g:GM) (e:EM):SM:=fun env S=>(e env S).then fun d S1=>match g S1 d env with
 | some env'=>.nx env' S1
 | none=>.bad
noncomputable def zKl (e:EM):SM:=fun env S=>(e env S).then fun _ S1=>.nx env S1
noncomputable def sRet (e:EM):SM:=fun env S=>(e env S).then fun d S1=>.rt d S1
noncomputable def zY8:SM:=fun _ S=>.rt .non S
noncomputable def sIf (c:TM) (a b:SM):SM:=fun env S=>(c env S).then fun k S1=>if k=true then a env S1 else b env S1
noncomputable def zKh:List Nat->List D->Env->Option Env
 | [],[],env=>some env
 | i::is,d::ds,env=>zKh is ds (env.set i (some d))
 | _,_,_=>none
noncomputable def sPar (is:List Nat) (a:AM):SM:=fun env S=>(a env S).then fun ds S1=>match zKh is ds env with
 | some env'=>.nx env' S1
 | none=>.bad
noncomputable def sPut (g:Store->D->D->D->Option Store) (o i v:EM):SM:=fun env S=>(v env S).then fun y S1=>(o env S1).then fun x S2=>(i env S2).then fun k S3=>match g S3 x k y with
 | some S4=>.nx env S4
 | none=>.bad
noncomputable def forL (gd:List (Nat × D)) (g:GM) (b:SM):List D->Env->Store->SR
 | [],env,S=>if gOk S gd then .nx env S else .bad
 | d::r,env,S=>if gOk S gd then(match g S d env with
  | some env'=>(match b env' S with
   | .nx e S1=>forL gd g b r e S1
   | .ct e S1=>forL gd g b r e S1
   | .bk e S1=>.nx e S1
   | q=>q)
  | none=>.bad)else .bad
noncomputable def sFor (i:IM) (g:GM) (b:SM):SM:=fun env S=>(i env S).then fun w S1=>forL w.gd g b w.its env S1
noncomputable def zAp (c:TM) (b:SM):Nat->Env->Store->SR
 | 0,_,_=>.bad
 | n+1,env,S=>(c env S).then fun k S1=>if k=true then(match b env S1 with
   | .nx e S2=>zAp c b n e S2
   | .ct e S2=>zAp c b n e S2
   | .bk e S2=>.nx e S2
   | q=>q)else .nx env S1
noncomputable def zDi (c:TM) (b:SM):SM:=fun env S=>if h:∃n,zAp c b n env S≠.bad then zAp c b (choose h) env S else .bad
theorem zBd {c:TM}{b:SM}:∀{n:Nat}{env:Env}{S:Store},zAp c b n env S≠.bad->∀m,n<=m->zAp c b m env S=zAp c b n env S
 | 0,_,_,h,_,_=>absurd rfl h
 | n+1,env,S,h,m,hm=>by
  obtain⟨m,rfl⟩:∃k,m=k+1:=⟨m-1,by nofun⟩
  unfold zAp at h ⊢
  cases hc:c env S with
  | ok k S1=>
   rw[hc]at h
   simp only[Rs.then_ok]at h ⊢
   by_cases hk:k=true
   ·rw[xg hk]at h ⊢
    rw[xg hk]
    cases hb:b env S1 with
    | nx e S2=>rw[hb]at h;exact zBd h m (by nofun)
    | ct e S2=>rw[hb]at h;exact zBd h m (by nofun)
    | _=>rfl
   ·rw[xh hk,xh hk]
  | ex x S1=>rfl
  | bad=>rfl
theorem zKk {c:TM}{b:SM}{n:Nat}{env:Env}{S:Store}(h:zAp c b n env S≠.bad):zDi c b env S=zAp c b n env S:=by
 unfold zDi
 have hx:∃n,zAp c b n env S≠.bad:=⟨n,h⟩
 rw[dif_pos hx]
 have h1:=choose_spec hx
 rw[<- zBd h1 (max (choose hx) n) (Nat.le_max_left _ _),<- zBd h (max (choose hx) n) (Nat.le_max_right _ _)]
noncomputable def keeps (n:Nat):Store->Store->Prop
 | [],_=>True
 | a::r,b::t=>(a=b\/b.low n=true)/\keeps n r t
 | _::_,[]=>False
noncomputable def fin (S:Store) (d:D) (S':Store):Rs D:=
 if keeps S.length S S' then
  if d.low S.length=true then .ok d (S'.take S.length)
  else match d with
   | .ref n=>match S'[n]? with
    | some c=>if c.low S.length=true then .ok c (S'.take S.length)else .ok d S'
    | none=>.bad
   | _=>.ok d S'
 else .ok d S'
noncomputable def zAv (np nl:Nat) (b:SM):Fn:=fun ds S=>if ds.length=np then
  (match b (ds.map some++List.replicate (nl-np) none) S with
  | .nx _ S'=>fin S .non S'
  | .rt d S'=>fin S d S'
  | .ex x S'=>.ex x S'
  | _=>.bad)
 else .bad
noncomputable def zDz (np nl:Nat) (b:SM):Fn:=fun ds S=>if ds.length=np then
  (match b (ds.map some++List.replicate (nl-np) none) S with
  | .nx _ S'=>.ok .non S'
  | .rt d S'=>.ok d S'
  | .ex x S'=>.ex x S'
  | _=>.bad)
 else .bad
end
end DS
namespace L2
open PySem PySem.Spec PyProof.Rows
open DS (D Store Exn Rs SR)
noncomputable abbrev Js:=List Addr
noncomputable def TAt (K:PySem.W.Frag) (J:Js) (H:Hp) (a:Addr) (xs:List V):Prop:=H a=some (.tup xs)/\a ∉ J
noncomputable def KAt (K:PySem.W.Frag) (a:Addr) (xs:List V):Prop:=∃(o:Obj) (its:Array Value) (n:Nat),K.lookup a=some o/\o.cls=.type "tuple"/\o.data=.seq its n/\its.size<=sizeLine/\Vals xs its.toList
noncomputable def LAt (K:PySem.W.Frag) (J:Js) (H:Hp) (a:Addr) (xs:List V):Prop:=H a=some (.lst xs)/\a ∉ J
noncomputable def SAt (K:PySem.W.Frag) (J:Js) (H:Hp) (a:Addr) (xs:List V):Prop:=
 (Rd H a (.lst xs)/\a ∉ J)\/∃(o:Obj) (its:Array Value) (n:Nat),K.lookup a=some o/\o.cls=.type "list"/\o.dict=none/\o.data=.seq its n/\its.size<=sizeLine/\Vals xs its.toList
noncomputable def keyD:Key->D
 | .inl i=>.int i
 | .inr x=>.str x
noncomputable def zQy (k:List Key):D:=.tup (k.map keyD)
noncomputable def DOb (o:HO) (t:Bool) (ks:List D) (xs:List V):Prop:=
 (t=false/\∃kvs:List (Key × V),o=.dK kvs/\ks=kvs.map (fun p=>keyD p.1)/\xs=kvs.map (·.2)) \/
  (t=true/\∃kvs:List (List Key × V),o=.dT kvs/\ks=kvs.map (fun p=>zQy p.1)/\xs=kvs.map (·.2))
mutual
noncomputable def Rep (K:PySem.W.Frag) (J:Js) (H:Hp):D->V->Prop
 | .non,v=>v=.non
 | .bl b,v=>v=.bl b
 | .int i,v=>v=.int i
 | .str x,v=>v=.str x
 | .ty n,v=>v=.ty n
 | .tup ds,v=>∃a xs,v=.ref a/\TAt K J H a xs/\RepL K J H ds xs
 | .lst ds,v=>∃a xs,v=.ref a/\LAt K J H a xs/\RepL K J H ds xs
 | .ktup ds,v=>∃a xs,v=.ref a/\KAt K a xs/\RepL K J H ds xs
 | .klst ds,v=>∃a xs,v=.ref a/\SAt K J H a xs/\RepL K J H ds xs
 | .dct t ks vs,v=>∃a o xs,v=.ref a/\a ∉ J/\Rd H a o/\DOb o t ks xs/\RepL K J H vs xs
 | .st _,_=>False
 | .ref n,v=>∃a,J[n]?=some a/\v=.ref a
noncomputable def RepL (K:PySem.W.Frag) (J:Js) (H:Hp):List D->List V->Prop
 | [],xs=>xs=[]
 | d::ds,xs=>∃x r,xs=x::r/\Rep K J H d x/\RepL K J H ds r
end
noncomputable def ObD (K:PySem.W.Frag) (J:Js) (H:Hp):D->HO->Prop
 | .lst ds,o=>∃xs,o=.lst xs/\RepL K J H ds xs
 | .dct t ks vs,o=>∃xs,DOb o t ks xs/\RepL K J H vs xs
 | _,_=>False
noncomputable def RepO (K:PySem.W.Frag) (J:Js) (H:Hp) (d:D) (a:Addr):Prop:=∃o,H a=some o/\ObD K J H d o
structure AbS (K:PySem.W.Frag) (J:Js) (S:Store) (H:Hp):Prop where
 len:J.length=S.length
 nd:J.Nodup
 ob:∀(i:Nat) (a:Addr) (d:D),J[i]?=some a->S[i]?=some d->RepO K J H d a
noncomputable def Fz (o:HO) (x:Option HO):Prop:=x=some o\/((∃kvs,o=.dT kvs)/\∃ob,x=some (.frz ob o))
theorem Fz.tup {xs:List V}{x:Option HO}(h:Fz (.tup xs) x):x=some (.tup xs):=by
 rcases h with h|⟨⟨_,z⟩,_⟩
 ·exact h
 ·cases z
theorem Fz.lst {xs:List V}{x:Option HO}(h:Fz (.lst xs) x):x=some (.lst xs):=by
 rcases h with h|⟨⟨_,z⟩,_⟩
 ·exact h
 ·cases z
theorem Fz.frz {ob:Obj}{u:HO}{x:Option HO}(h:Fz (.frz ob u) x):x=some (.frz ob u):=by
 rcases h with h|⟨⟨_,z⟩,_⟩
 ·exact h
 ·cases z
structure Grow (J:Js) (H:Hp) (J':Js) (H':Hp):Prop where
 pre:∀(i:Nat) (a:Addr),J[i]?=some a->J'[i]?=some a
 new:∀a∈J',a ∉ J->H a=none
 keep:∀b o,b ∉ J->H b=some o->Fz o (H' b)
 dom:∀b,H' b=none->H b=none
structure RepE (K:PySem.W.Frag) (J:Js) (H:Hp) (env:DS.Env) (σ:St):Prop where
 len:env.length=σ.length
 get:∀(i:Nat) (d:D),env[i]?=some (some d)->∃v,σ[i]?=some (some v)/\Rep K J H d v
section
variable {K:PySem.W.Frag}{J J' J1 J2:Js}{H H' H1 H2:Hp}{a:Addr}{d:D}{v:V}{S S':Store}{env:DS.Env}{σ:St}
theorem Grow.refl:Grow J H J H:=⟨fun _ _ h=>h,fun _ h n=>absurd h n,fun _ _ _ h=>.inl h,fun _ h=>h⟩
theorem Grow.trans (g:Grow J H J1 H1) (k:Grow J1 H1 J2 H2):Grow J H J2 H2 where
 pre:=fun i a h=>k.pre i a (g.pre i a h)
 new:=fun a h n=>by
  by_cases z:a∈J1
  ·exact g.new a z n
  ·exact g.dom a (k.new a h z)
 keep:=fun b o n h=>by
  have n1:b ∉ J1:=fun z=>by rw[g.new b z n]at h;cases h
  rcases g.keep b o n h with e|⟨z,ob,e⟩
  ·exact k.keep b o n1 e
  ·exact .inr ⟨z,ob,(k.keep b _ n1 e).frz⟩
 dom:=fun b h=>g.dom b (k.dom b h)
theorem Grow.out {o:HO}(g:Grow J H J' H') (n:a ∉ J) (h:H a=some o):a ∉ J':=fun z=>by rw[g.new a z n]at h;cases h
theorem Grow.rd {u:HO}(g:Grow J H J' H') (n:a ∉ J) (h:Rd H a u):Rd H' a u/\a ∉ J':=by
 rcases h with h|⟨o,h⟩
 ·refine⟨?_,g.out n h⟩
  rcases g.keep _ _ n h with e|⟨_,ob,e⟩
  ·exact .inl e
  ·exact .inr ⟨ob,e⟩
 ·exact⟨.inr ⟨o,(g.keep _ _ n h).frz⟩,g.out n h⟩
theorem TAt.sq {xs:List V}(h:TAt K J H a xs):SqT K H a xs:=.inl (.inl h.1)
theorem KAt.sq {xs:List V}(h:KAt K a xs):SqT K H a xs:=.inr h
theorem LAt.sq {xs:List V}(h:LAt K J H a xs):SqL K H a xs:=.inl (.inl h.1)
theorem SAt.sq {xs:List V}(h:SAt K J H a xs):SqL K H a xs:=by
 rcases h with h|h
 ·exact .inl h.1
 ·exact .inr h
theorem SAt.grow {xs:List V}(g:Grow J H J' H') (h:SAt K J H a xs):SAt K J' H' a xs:=by
 rcases h with h|h
 ·exact .inl (g.rd h.2 h.1)
 ·exact .inr h
theorem TAt.grow {xs:List V}(g:Grow J H J' H') (h:TAt K J H a xs):TAt K J' H' a xs:=⟨(g.keep _ _ h.2 h.1).tup,g.out h.2 h.1⟩
theorem LAt.grow {xs:List V}(g:Grow J H J' H') (h:LAt K J H a xs):LAt K J' H' a xs:=⟨(g.keep _ _ h.2 h.1).lst,g.out h.2 h.1⟩
mutual
theorem Rep.grow (g:Grow J H J' H'):∀(d:D) (v:V),Rep K J H d v->Rep K J' H' d v
 | .non,_,h=>h
 | .bl _,_,h=>h
 | .int _,_,h=>h
 | .str _,_,h=>h
 | .ty _,_,h=>h
 | .tup ds,v,⟨a,xs,e,t,r⟩=>⟨a,xs,e,t.grow g,RepL.grow g ds xs r⟩
 | .lst ds,v,⟨a,xs,e,t,r⟩=>⟨a,xs,e,t.grow g,RepL.grow g ds xs r⟩
 | .ktup ds,v,⟨a,xs,e,t,r⟩=>⟨a,xs,e,t,RepL.grow g ds xs r⟩
 | .klst ds,v,⟨a,xs,e,t,r⟩=>⟨a,xs,e,t.grow g,RepL.grow g ds xs r⟩
 | .dct _ ks vs,v,⟨a,o,xs,e,n,h,t,r⟩=>⟨a,o,xs,e,(g.rd n h).2,(g.rd n h).1,t,RepL.grow g vs xs r⟩
 | .st _,_,h=>h
 | .ref n,v,⟨a,e,h⟩=>⟨a,g.pre n a e,h⟩
theorem RepL.grow (g:Grow J H J' H'):∀(ds:List D) (xs:List V),RepL K J H ds xs->RepL K J' H' ds xs
 | [],_,h=>h
 | d::ds,xs,⟨x,r,e,h,t⟩=>⟨x,r,e,Rep.grow g d x h,RepL.grow g ds r t⟩
end
theorem RepE.grow (g:Grow J H J' H') (h:RepE K J H env σ):RepE K J' H' env σ:=⟨h.len,fun i d e=>by
 obtain⟨v,q,r⟩:=h.get i d e
 exact⟨v,q,Rep.grow g d v r⟩⟩
theorem RepL.length:∀{ds:List D}{xs:List V},RepL K J H ds xs->ds.length=xs.length
 | [],_,h=>by cases h;rfl
 | _::ds,_,⟨x,r,e,_,t⟩=>by subst e;simp[RepL.length t]
theorem RepL.get:∀{ds:List D}{xs:List V}{i:Nat}{d:D},RepL K J H ds xs->ds[i]?=some d->∃x,xs[i]?=some x/\Rep K J H d x
 | [],_,_,_,_,e=>by simp at e
 | d::ds,_,0,_,⟨x,r,e,h,t⟩,q=>by subst e;simp at q;subst q;exact⟨x,rfl,h⟩
 | _::ds,_,i+1,d,⟨x,r,e,_,t⟩,q=>by subst e;exact RepL.get (i:=i) t (by simpa using q)
theorem RepL.get' {ds:List D}{xs:List V}{i:Nat}{x:V}(h:RepL K J H ds xs) (e:xs[i]?=some x):∃d,ds[i]?=some d/\Rep K J H d x:=by
 have hl:=h.length
 have hi:i<ds.length:=by rw[hl];exact(xK.mp e).1
 obtain⟨y,ey,r⟩:=h.get (xu hi)
 rw[e]at ey;cases ey
 exact⟨_,xu hi,r⟩
theorem RepL.append:∀{ds es:List D}{xs ys:List V},RepL K J H ds xs->RepL K J H es ys->RepL K J H (ds++es) (xs++ys)
 | [],_,_,_,h,k=>by cases h;exact k
 | d::ds,_,_,_,⟨x,r,e,h,t⟩,k=>by subst e;exact⟨x,_,rfl,h,t.append k⟩
theorem RepL.snoc {ds:List D}{xs:List V}{x:V}(h:RepL K J H ds xs) (r:Rep K J H d x):RepL K J H (ds++[d]) (xs++[x]):=h.append ⟨x,[],rfl,r,rfl⟩
theorem RepL.take:∀{ds:List D}{xs:List V}(n:Nat),RepL K J H ds xs->RepL K J H (ds.take n) (xs.take n)
 | _,_,0,_=>rfl
 | [],_,_+1,h=>by cases h;rfl
 | d::ds,_,n+1,⟨x,r,e,h,t⟩=>by subst e;exact⟨x,_,rfl,h,t.take n⟩
theorem RepL.drop:∀{ds:List D}{xs:List V}(n:Nat),RepL K J H ds xs->RepL K J H (ds.drop n) (xs.drop n)
 | _,_,0,h=>h
 | [],_,_+1,h=>by cases h;rfl
 | d::ds,_,n+1,⟨x,r,e,h,t⟩=>by subst e;exact t.drop n
theorem RepL.reverse:∀{ds:List D}{xs:List V},RepL K J H ds xs->RepL K J H ds.reverse xs.reverse
 | [],_,h=>by cases h;rfl
 | d::ds,_,⟨x,r,e,h,t⟩=>by subst e;rw[List.reverse_cons,List.reverse_cons];exact t.reverse.snoc h
theorem RepL.dropLast {ds:List D}{xs:List V}(h:RepL K J H ds xs):RepL K J H ds.dropLast xs.dropLast:=by
 rw[List.dropLast_eq_take,List.dropLast_eq_take,h.length];exact h.take _
theorem RepL.ints:∀{ns:List Int},RepL K J H (ns.map D.int) (ns.map V.int)
 | []=>rfl
 | n::ns=>⟨_,_,rfl,rfl,RepL.ints⟩
theorem AbS.lt (h:AbS K J S H) {n:Nat}(e:J[n]?=some a):n<S.length:=by rw[<- h.len];exact(xK.mp e).1
theorem AbS.at (h:AbS K J S H) {n:Nat}(e:J[n]?=some a):∃d,S[n]?=some d/\RepO K J H d a:=
 ⟨S[n]'(h.lt e),xu (h.lt e),h.ob n a _ e (xu (h.lt e))⟩
theorem AbS.mem (h:AbS K J S H) (m:a∈J):∃o,H a=some o:=by
 obtain⟨i,e⟩:=uT.mp m
 obtain⟨d,_,o,r,_⟩:=h.at e
 exact⟨o,r⟩
theorem AbS.out (h:AbS K J S H) (n:H a=none):a ∉ J:=fun m=>by
 obtain⟨o,e⟩:=h.mem m
 rw[n]at e;cases e
theorem ObD.imp {o:HO}(rl:∀ds xs,RepL K J H ds xs->RepL K J' H' ds xs):∀{d:D},ObD K J H d o->ObD K J' H' d o
 | .lst ds,⟨xs,e,r⟩=>⟨xs,e,rl _ _ r⟩
 | .dct _ ks vs,⟨xs,e,r⟩=>⟨xs,e,rl _ _ r⟩
 | .non,h=>False.elim h
 | .bl _,h=>False.elim h
 | .int _,h=>False.elim h
 | .str _,h=>False.elim h
 | .ty _,h=>False.elim h
 | .tup _,h=>False.elim h
 | .ktup _,h=>False.elim h
 | .klst _,h=>False.elim h
 | .st _,h=>False.elim h
 | .ref _,h=>False.elim h
theorem ObD.grow {o:HO}(g:Grow J H J' H') (h:ObD K J H d o):ObD K J' H' d o:=h.imp (RepL.grow g)
theorem Grow.of (k:∀b o,H b=some o->H' b=some o):Grow J H J H':=⟨fun _ _ h=>h,fun _ h n=>absurd h n,fun b o _ h=>.inl (k b o h),fun b h=>by
 cases e:H b with
 | none=>rfl
 | some o=>rw[k b o e]at h;cases h⟩
theorem AbS.more (h:AbS K J S H) (k:∀b o,H b=some o->H' b=some o):AbS K J S H':=
 ⟨h.len,h.nd,fun i a d e q=>by
  obtain⟨o,eo,r⟩:=h.ob i a d e q
  exact⟨o,k _ _ eo,r.grow (.of k)⟩⟩
theorem zD5 {p:Addr}{o:HO}(n:H p=none):∀b u,H b=some u->upd H p o b=some u:=fun b u e=>by rw[zA7 (zA3 e n)];exact e
theorem AbS.push {p:Addr}{o:HO}(h:AbS K J S H) (n:H p=none):AbS K J S (upd H p o):=h.more (zD5 n)
theorem Grow.push {p:Addr}{o:HO}(n:H p=none):Grow J H J (upd H p o):=.of (zD5 n)
theorem Grow.name {p:Addr}{o:HO}(n:H p=none):Grow J H (J++[p]) (upd H p o) where
 pre:=fun i a h=>by rw[vf (xK.mp h).1];exact h
 new:=fun a h z=>by
  rcases xV.mp h with h|h
  ·exact absurd h z
  ·rw[vk.mp h];exact n
 keep:=fun b u _ e=>.inl (zD5 n b u e)
 dom:=(Grow.push (J:=J) n).dom
theorem AbS.name {p:Addr}{o:HO}(h:AbS K J S H) (n:H p=none) (r:ObD K J H d o):AbS K (J++[p]) (S++[d]) (upd H p o):=by
 have hp:=h.out n
 have g:Grow J H (J++[p]) (upd H p o):=.name n
 refine⟨by simp[h.len],?_,fun i a d' e q=>?_⟩
 ·refine List.nodup_append.mpr ⟨h.nd,(x4.mpr ⟨by simp,uK⟩),fun x hx y hy=>?_⟩
  rintro rfl
  exact hp (by rw[<- vk.mp hy];exact hx)
 ·by_cases hi:i<J.length
  ·rw[vf hi]at e
   rw[vf (by rw[<- h.len];exact hi)]at q
   obtain⟨o',eo,r'⟩:=h.ob i a d' e q
   exact⟨o',zD5 n _ _ eo,r'.grow g⟩
  ·have hl:i=J.length:=by
    have:=(xK.mp e).1
    simp at this
    lia
   subst hl
   rw[vw (xi _)]at e
   rw[vw (by rw[h.len];exact xi _),h.len]at q
   simp at e q
   subst e q
   exact⟨o,zAd,r.grow g⟩
theorem Grow.write {n:Nat}{o:HO}(e:J[n]?=some a):Grow J H J (upd H a o) where
 pre:=fun _ _ h=>h
 new:=fun b h z=>absurd h z
 keep:=fun b u z h=>.inl (by rw[zA7 (fun q=>z (by rw[q];exact yb e))];exact h)
 dom:=fun b h=>by
  by_cases q:b=a
  ·subst q;rw[zAd]at h;cases h
  ·rw[zA7 q]at h;exact h
theorem AbS.write {n:Nat}{o:HO}(h:AbS K J S H) (e:J[n]?=some a) (r:ObD K J H d o):AbS K J (S.set n d) (upd H a o):=by
 have g:Grow J H J (upd H a o):=.write e
 refine⟨by simp[h.len],h.nd,fun i b d' ei q=>?_⟩
 by_cases hi:i=n
 ·subst hi
  rw[e]at ei;cases ei
  rw[vq (h.lt e)]at q
  cases q
  exact⟨o,zAd,r.grow g⟩
 ·rw[xM (xw hi)]at q
  obtain⟨o',eo,r'⟩:=h.ob i b d' ei q
  have hb:b≠a:=fun z=>by
   subst z
   exact hi ((List.getElem?_inj (xK.mp ei).1 h.nd).mp (ei.trans e.symm))
  exact⟨o',by rw[zA7 hb];exact eo,r'.grow g⟩
theorem lowL_iff {n:Nat}:∀{l:List D},DS.lowL n l=true <-> ∀d∈l,d.low n=true
 | []=>⟨(fun _ _ h=>nomatch h),fun _=>rfl⟩
 | d::r=>by
  show(d.low n && DS.lowL n r)=true <-> _
  rw[xt,lowL_iff (l:=r)]
  simp
theorem zI9 (n:Nat) (k:Key):(keyD k).low n=true:=by cases k <;> rfl
theorem DOb.low {o:HO}{t:Bool}{ks:List D}{xs:List V}{n:Nat}(h:DOb o t ks xs):DS.lowL n ks=true:=by
 rcases h with⟨_,kvs,_,rfl,_⟩|⟨_,kvs,_,rfl,_⟩
 ·exact lowL_iff.mpr fun d hd=>by obtain⟨p,_,rfl⟩:=xA.mp hd;exact zI9 n p.1
 ·exact lowL_iff.mpr fun d hd=>by
   obtain⟨p,_,rfl⟩:=xA.mp hd
   show DS.lowL n (p.1.map keyD)=true
   exact lowL_iff.mpr fun d hd=>by obtain⟨q,_,rfl⟩:=xA.mp hd;exact zI9 n q
mutual
theorem Rep.low:∀(d:D) (v:V),Rep K J H d v->d.low J.length=true
 | .non,_,_=>rfl
 | .bl _,_,_=>rfl
 | .int _,_,_=>rfl
 | .str _,_,_=>rfl
 | .ty _,_,_=>rfl
 | .tup ds,v,⟨a,xs,e,t,r⟩=>RepL.low ds xs r
 | .lst ds,v,⟨a,xs,e,t,r⟩=>RepL.low ds xs r
 | .ktup ds,v,⟨a,xs,e,t,r⟩=>RepL.low ds xs r
 | .klst ds,v,⟨a,xs,e,t,r⟩=>RepL.low ds xs r
 | .dct _ ks vs,v,⟨a,o,xs,e,n,h,t,r⟩=>by
  show(DS.lowL J.length ks && DS.lowL J.length vs)=true
  rw[RepL.low vs xs r,Bool.and_true]
  exact DOb.low t
 | .st _,_,h=>False.elim h
 | .ref n,v,⟨a,e,h⟩=>xB (xK.mp e).1
theorem RepL.low:∀(ds:List D) (xs:List V),RepL K J H ds xs->DS.lowL J.length ds=true
 | [],_,_=>rfl
 | d::ds,xs,⟨x,r,e,h,t⟩=>by
  show(d.low J.length && DS.lowL J.length ds)=true
  rw[Rep.low d x h,RepL.low ds r t];rfl
end
theorem ObD.low {o:HO}:∀{d:D},ObD K J H d o->d.low J.length=true
 | .lst ds,⟨xs,_,r⟩=>RepL.low ds xs r
 | .dct _ ks vs,⟨xs,t,r⟩=>by
  show(DS.lowL J.length ks && DS.lowL J.length vs)=true
  rw[RepL.low vs xs r,Bool.and_true]
  exact DOb.low t
 | .non,h=>False.elim h
 | .bl _,h=>False.elim h
 | .int _,h=>False.elim h
 | .str _,h=>False.elim h
 | .ty _,h=>False.elim h
 | .tup _,h=>False.elim h
 | .ktup _,h=>False.elim h
 | .klst _,h=>False.elim h
 | .st _,h=>False.elim h
 | .ref _,h=>False.elim h
theorem zBw {n:Nat}(h:a ∉ J):a ∉ J.take n:=fun z=>h (List.mem_of_mem_take z)
mutual
theorem Rep.cut (n:Nat):∀(d:D) (v:V),d.low n=true->Rep K J H d v->Rep K (J.take n) H d v
 | .non,_,_,h=>h
 | .bl _,_,_,h=>h
 | .int _,_,_,h=>h
 | .str _,_,_,h=>h
 | .ty _,_,_,h=>h
 | .tup ds,v,l,⟨a,xs,e,t,r⟩=>⟨a,xs,e,⟨t.1,zBw t.2⟩,RepL.cut n ds xs l r⟩
 | .ktup ds,v,l,⟨a,xs,e,t,r⟩=>⟨a,xs,e,t,RepL.cut n ds xs l r⟩
 | .klst ds,v,l,⟨a,xs,e,t,r⟩=>⟨a,xs,e,by
   rcases t with t|t
   ·exact .inl ⟨t.1,zBw t.2⟩
   ·exact .inr t,RepL.cut n ds xs l r⟩
 | .lst ds,v,l,⟨a,xs,e,t,r⟩=>⟨a,xs,e,⟨t.1,zBw t.2⟩,RepL.cut n ds xs l r⟩
 | .dct _ ks vs,v,l,⟨a,o,xs,e,q,h,t,r⟩=>⟨a,o,xs,e,zBw q,h,t,RepL.cut n vs xs (by
   have l:(DS.lowL n ks && DS.lowL n vs)=true:=l
   rw[xt]at l
   exact l.2) r⟩
 | .st _,_,_,h=>h
 | .ref m,v,l,⟨a,e,h⟩=>⟨a,by rw[ui (of_decide_eq_true l)];exact e,h⟩
theorem RepL.cut (n:Nat):∀(ds:List D) (xs:List V),DS.lowL n ds=true->RepL K J H ds xs->RepL K (J.take n) H ds xs
 | [],_,_,h=>h
 | d::ds,xs,l,⟨x,r,e,h,t⟩=>by
  have l:(d.low n && DS.lowL n ds)=true:=l
  rw[xt]at l
  exact⟨x,r,e,Rep.cut n d x l.1 h,RepL.cut n ds r l.2 t⟩
end
theorem ObD.cut {n:Nat}{o:HO}:∀{d:D},d.low n=true->ObD K J H d o->ObD K (J.take n) H d o
 | .lst ds,l,⟨xs,e,r⟩=>⟨xs,e,RepL.cut n ds xs l r⟩
 | .dct _ ks vs,l,⟨xs,t,r⟩=>⟨xs,t,RepL.cut n vs xs (by
   have l:(DS.lowL n ks && DS.lowL n vs)=true:=l
   rw[xt]at l
   exact l.2) r⟩
 | .non,_,h=>False.elim h
 | .bl _,_,h=>False.elim h
 | .int _,_,h=>False.elim h
 | .str _,_,h=>False.elim h
 | .ty _,_,h=>False.elim h
 | .tup _,_,h=>False.elim h
 | .ktup _,_,h=>False.elim h
 | .klst _,_,h=>False.elim h
 | .st _,_,h=>False.elim h
 | .ref _,_,h=>False.elim h
theorem zDm {n:Nat}:∀{S S':Store},DS.keeps n S S'->∀i,i<S.length->∃b,S'[i]?=some b/\(S[i]?=some b\/b.low n=true)
 | [],_,_,i,hi=>by simp at hi
 | a::r,[],h,_,_=>False.elim h
 | a::r,b::t,h,0,_=>⟨b,rfl,by
   rcases h.1 with e|e
   ·subst e;exact .inl rfl
   ·exact .inr e⟩
 | a::r,b::t,h,i+1,hi=>by simpa using zDm h.2 i (by simpa using hi)
theorem Grow.take (h:AbS K J S H) (g:Grow J H J' H'):J'.take S.length=J:=by
 refine List.ext_getElem? fun i=>?_
 by_cases hi:i<S.length
 ·rw[ui hi]
  have hj:i<J.length:=by rw[h.len];exact hi
  rw[xu hj]
  exact g.pre i _ (xu hj)
 ·rw[vU (by rw[vo];lia),vU (by rw[h.len];lia)]
theorem Grow.cut (g:Grow J H J' H'):Grow J H J H':=⟨fun _ _ h=>h,fun _ h n=>absurd h n,g.keep,g.dom⟩
theorem AbS.cut (h:AbS K J S H) (g:Grow J H J' H') (h':AbS K J' S' H') (k:DS.keeps S.length S S'):AbS K J (S'.take S.length) H':=by
 have e:=g.take h
 refine⟨?_,h.nd,fun i a d ei q=>?_⟩
 ·have l:∀i,i<S.length->i<S'.length:=fun i hi=>by
   obtain⟨b,eb,_⟩:=zDm k i hi
   exact(xK.mp eb).1
  rw[h.len,vo]
  by_cases z:S.length=0
  ·lia
  ·have:=l (S.length-1) (by nofun)
   lia
 ·have hi:=h.lt ei
  rw[ui hi]at q
  obtain⟨b,eb,lo⟩:=zDm k i hi
  rw[q]at eb;cases eb
  obtain⟨o,eo,r⟩:=h'.ob i a d (g.pre i a ei) q
  have low:d.low S.length=true:=by
   rcases lo with lo|lo
   ·obtain⟨o',_,r'⟩:=h.ob i a d ei lo
    have:=r'.low
    rw[h.len]at this
    exact this
   ·exact lo
  have:=r.cut low
  rw[e]at this
  exact⟨o,eo,this⟩
theorem zWq {d2:D}{S2:Store}(h:AbS K J S H) (g:Grow J H J' H') (h':AbS K J' S' H') (r:Rep K J' H' d v) (e:DS.fin S d S'=.ok d2 S2):∃J2,AbS K J2 S2 H'/\Grow J H J2 H'/\Rep K J2 H' d2 v:=by
 have ek:=g.take h
 unfold DS.fin at e
 by_cases k:DS.keeps S.length S S'
 ·rw[xg k]at e
  by_cases l:d.low S.length=true
  ·rw[xg l]at e
   cases e
   refine⟨J,h.cut g h' k,g.cut,?_⟩
   have:=Rep.cut _ _ _ l r
   rw[ek]at this
   exact this
  ·rw[xh l]at e
   cases d with
   | ref n=>
    obtain⟨a,ea,rfl⟩:=r
    obtain⟨c,ec,o,eo,rc⟩:=h'.at ea
    simp only[ec]at e
    by_cases lc:c.low S.length=true
    ·rw[xg lc]at e
     cases e
     refine⟨J,h.cut g h' k,g.cut,?_⟩
     have ha:a ∉ J:=fun z=>by
      obtain⟨i,ei⟩:=uT.mp z
      have hi:=h.lt ei
      have e2:=g.pre i a ei
      have:=(List.getElem?_inj (xK.mp e2).1 h'.nd).mp (e2.trans ea.symm)
      subst this
      exact l (xB hi)
     have rc2:=rc.cut lc
     rw[ek]at rc2
     cases d2 with
     | lst ds=>obtain⟨xs,rfl,rl⟩:=rc2;exact⟨a,xs,rfl,⟨eo,ha⟩,rl⟩
     | dct _ ks vs=>obtain⟨xs,t,rl⟩:=rc2;exact⟨a,o,xs,rfl,ha,.inl eo,t,rl⟩
     | _=>exact False.elim rc2
    ·rw[xh lc]at e
     cases e
     exact⟨J',h',g,a,ea,rfl⟩
   | _=>cases e;exact⟨J',h',g,r⟩
 ·rw[xh k]at e
  cases e
  exact⟨J',h',g,r⟩
end
end L2
namespace L2
open PySem PySem.Spec PyProof.Rows
open DS (D Store Exn Rs SR)
noncomputable abbrev XE:=Exn->Store->Js->Hp->Prop
noncomputable def XE0:XE:=fun _ _ _ _=>False
noncomputable def Post {α:Type}(K:PySem.W.Frag) (E:XE) (J:Js) (H:Hp) (r:Rs α) (P:α->Store->Js->Hp->Prop):Prop:=match r with
 | .ok a S=>∀J' H',AbS K J' S H'->Grow J H J' H'->P a S J' H'
 | .ex x S=>∀J' H',AbS K J' S H'->Grow J H J' H'->E x S J' H'
 | .bad=>False
noncomputable def PostS (K:PySem.W.Frag) (E:XE) (J:Js) (H:Hp) (r:SR) (D:Ends):Prop:=match r with
 | .nx e S=>∀J' H' σ,AbS K J' S H'->Grow J H J' H'->RepE K J' H' e σ->D.nx σ H'
 | .rt d S=>∀J' H' v,AbS K J' S H'->Grow J H J' H'->Rep K J' H' d v->D.rt v H'
 | .bk e S=>∀J' H' σ,AbS K J' S H'->Grow J H J' H'->RepE K J' H' e σ->D.bk σ H'
 | .ct e S=>∀J' H' σ,AbS K J' S H'->Grow J H J' H'->RepE K J' H' e σ->D.ct σ H'
 | .ex x S=>∀J' H',AbS K J' S H'->Grow J H J' H'->E x S J' H'
 | .bad=>False
section
variable {α β:Type}{K:PySem.W.Frag}{E:XE}{J J1:Js}{H H1:Hp}{S:Store}
theorem Post.grow {r:Rs α}{P:α->Store->Js->Hp->Prop}(g:Grow J H J1 H1) (h:Post K E J H r P):Post K E J1 H1 r P:=by
 cases r with
 | ok a S=>exact fun J' H' h1 h2=>h J' H' h1 (g.trans h2)
 | ex x S=>exact fun J' H' h1 h2=>h J' H' h1 (g.trans h2)
 | bad=>exact h
theorem Post.bind {r:Rs α}{k:α->Store->Rs β}{P:β->Store->Js->Hp->Prop}(h:Post K E J H (r.bind k) P):Post K E J H r (fun a S J' H'=>Post K E J' H' (k a S) P):=by
 cases r with
 | ok a S=>exact fun J' H' _ g=>Post.grow g h
 | ex x S=>exact h
 | bad=>exact h
theorem Post.imp {r:Rs α}{P P':α->Store->Js->Hp->Prop}(h:Post K E J H r P) (k:∀a S J' H',r=.ok a S->AbS K J' S H'->Grow J H J' H'->P a S J' H'->P' a S J' H'):Post K E J H r P':=by
 cases r with
 | ok a S=>exact fun J' H' h1 h2=>k a S J' H' rfl h1 h2 (h J' H' h1 h2)
 | ex x S=>exact h
 | bad=>exact h
theorem Post.map {r:Rs α}{P P':α->Store->Js->Hp->Prop}(h:Post K E J H r P) (k:∀a S J' H',r=.ok a S->AbS K J' S H'->Grow J H J' H'->(∀J2 H2,AbS K J2 S H2->Grow J H J2 H2->P a S J2 H2)->P' a S J' H'):Post K E J H r P':=by
 cases r with
 | ok a S=>exact fun J' H' h1 h2=>k a S J' H' rfl h1 h2 h
 | ex x S=>exact h
 | bad=>exact h
theorem Post.lift {o:Option α}{P:α->Store->Js->Hp->Prop}(h:Post K E J H (DS.lift o S) P):∃a,o=some a/\∀J' H',AbS K J' S H'->Grow J H J' H'->P a S J' H':=by
 cases o with
 | some a=>exact⟨a,rfl,h⟩
 | none=>exact False.elim h
theorem PostS.grow {r:SR}{D:Ends}(g:Grow J H J1 H1) (h:PostS K E J H r D):PostS K E J1 H1 r D:=by
 cases r with
 | nx e S=>exact fun J' H' σ h1 h2=>h J' H' σ h1 (g.trans h2)
 | bk e S=>exact fun J' H' σ h1 h2=>h J' H' σ h1 (g.trans h2)
 | ct e S=>exact fun J' H' σ h1 h2=>h J' H' σ h1 (g.trans h2)
 | rt e S=>exact fun J' H' σ h1 h2=>h J' H' σ h1 (g.trans h2)
 | ex x S=>exact fun J' H' h1 h2=>h J' H' h1 (g.trans h2)
 | bad=>exact h
theorem PostS.then {r:Rs α}{k:α->Store->SR}{D:Ends}(h:PostS K E J H (r.then k) D):Post K E J H r (fun a S J' H'=>PostS K E J' H' (k a S) D):=by
 cases r with
 | ok a S=>exact fun J' H' _ g=>PostS.grow g h
 | ex x S=>exact h
 | bad=>exact h
end
section
variable (K:PySem.W.Frag) (E:XE)
noncomputable def tOf (m:DS.EM):TE:=fun σ H Q=>∃env S J,AbS K J S H/\RepE K J H env σ/\Post K E J H (m env S) (fun d _ J' H'=>∀v,Rep K J' H' d v->Q v H')
noncomputable def tOfF (m:DS.EM):TE:=fun σ H Q=>∃env S J,AbS K J S H/\RepE K J H env σ/\Post K E J H (m env S) (fun d _ J' H'=>∀p o,H' p=none->ObD K J' H' d o->Q (.ref p) (upd H' p o))
noncomputable def ttOf (m:DS.TM):TT:=fun σ H Q=>∃env S J,AbS K J S H/\RepE K J H env σ/\Post K E J H (m env S) (fun b _ _ H'=>Q b H')
noncomputable def aOf (m:DS.AM):TA:=fun σ H Q=>∃env S J,AbS K J S H/\RepE K J H env σ/\Post K E J H (m env S) (fun ds _ J' H'=>∀vs,RepL K J' H' ds vs->Q vs H')
noncomputable def tsOf (m:DS.SM):TS:=fun D σ H=>∃env S J,AbS K J S H/\RepE K J H env σ/\PostS K E J H (m env S) D
noncomputable def gOf (m:DS.GM):TG:=fun v σ H Q=>∃env S J d env',AbS K J S H/\RepE K J H env σ/\Rep K J H d v/\m S d env=some env'/\∀σ',RepE K J H env' σ'->Q σ' H
noncomputable def gsOf (m:Store->List D->DS.Env->Option DS.Env):TGs:=fun vs σ H Q=>∃env S J ds env',AbS K J S H/\RepE K J H env σ/\RepL K J H ds vs/\m S ds env=some env'/\∀σ',RepE K J H env' σ'->Q σ' H
structure ItOk (J0:Js) (H0:Hp) (w:DS.Walk) (I:It):Prop where
 go:∀(i:Nat) (H:Hp) (J:Js) (S:Store),AbS K J S H->Grow J0 H0 J H->DS.gOk S w.gd->i<w.its.length->I.go i H
 yld:∀(i:Nat) (H:Hp) (J:Js) (S:Store) (x:V) (H':Hp),AbS K J S H->Grow J0 H0 J H->DS.gOk S w.gd->I.yld i H x H'->∀d,w.its[i]?=some d->AbS K J S H'/\Grow J H J H'/\Rep K J H' d x
 stop:∀(i:Nat) (H:Hp) (J:Js) (S:Store),AbS K J S H->Grow J0 H0 J H->DS.gOk S w.gd->w.its.length<=i->I.stop i H
noncomputable def iOf (m:DS.IM):TI:=fun σ H R=>∃env S J,AbS K J S H/\RepE K J H env σ/\Post K E J H (m env S) (fun w _ J' H'=>∀I,ItOk K J' H' w I->R I H')
noncomputable def r2Of (g:Store->D->D->Option D):R2:=fun x y H Q=>∃J S d1 d2 d,AbS K J S H/\Rep K J H d1 x/\Rep K J H d2 y/\g S d1 d2=some d/\∀v H',AbS K J S H'->Grow J H J H'->Rep K J H' d v->Q v H'
noncomputable def r1Of (g:Store->D->Option D):V->Hp->VK->Prop:=fun x H Q=>∃J S d1 d,AbS K J S H/\Rep K J H d1 x/\g S d1=some d/\∀v H',AbS K J S H'->Grow J H J H'->Rep K J H' d v->Q v H'
noncomputable def cOf (g:Store->List D->Option D):List V->Hp->VK->Prop:=fun xs H Q=>∃J S ds d,AbS K J S H/\RepL K J H ds xs/\g S ds=some d/\∀v H',AbS K J S H'->Grow J H J H'->Rep K J H' d v->Q v H'
noncomputable def zYa (g:Store->D->D->Option D):R2:=fun x y H Q=>∃J S d1 d2 d,AbS K J S H/\Rep K J H d1 x/\Rep K J H d2 y/\g S d1 d2=some d/\∀p o H',AbS K J S H'->Grow J H J H'->H' p=none->ObD K J H' d o->Q (.ref p) (upd H' p o)
noncomputable def cOfF (g:Store->List D->Option D):List V->Hp->VK->Prop:=fun xs H Q=>∃J S ds d,AbS K J S H/\RepL K J H ds xs/\g S ds=some d/\∀p o H',AbS K J S H'->Grow J H J H'->H' p=none->ObD K J H' d o->Q (.ref p) (upd H' p o)
noncomputable def mOf (g:Store->D->List D->Option (D × Store)):V->List V->Hp->VK->Prop:=fun x xs H Q=>∃J S d1 ds d S',AbS K J S H/\Rep K J H d1 x/\RepL K J H ds xs/\g S d1 ds=some (d,S')/\∀v H',AbS K J S' H'->Grow J H J H'->Rep K J H' d v->Q v H'
noncomputable def spOf (F:DS.Fn):Sp:=fun vs H Q _=>∃J S ds,AbS K J S H/\RepL K J H ds vs/\Post K E J H (F ds S) (fun d _ J' H'=>∀v,Rep K J' H' d v->Q v H')
end
structure DE (X:Cx) (K:PySem.W.Frag) (E:XE) (e:Expr) (m:DS.EM):Prop where h:SE X e (tOf K E m)
structure DF (X:Cx) (K:PySem.W.Frag) (E:XE) (e:Expr) (m:DS.EM):Prop where h:SE X e (tOfF K E m)
structure DT (X:Cx) (K:PySem.W.Frag) (E:XE) (e:Expr) (m:DS.TM):Prop where h:ST X e (ttOf K E m)
structure DW (X:Cx) (K:PySem.W.Frag) (E:XE) (e:Expr) (m:DS.TM):Prop where h:SW X e (ttOf K E m)
structure DIf (X:Cx) (K:PySem.W.Frag) (E:XE) (es:List Expr) (m:DS.TM):Prop where h:SIfs X es (ttOf K E m)
structure DA (X:Cx) (K:PySem.W.Frag) (E:XE) (es:List Expr) (m:DS.AM):Prop where
 h:SA X es (aOf K E m)
 len:∀env S ds S',m env S=.ok ds S'->ds.length=es.length
structure DS1 (X:Cx) (K:PySem.W.Frag) (E:XE) (st:Stmt) (m:DS.SM):Prop where h:SS X st (tsOf K E m)
structure DSs (X:Cx) (K:PySem.W.Frag) (E:XE) (st:List Stmt) (m:DS.SM):Prop where h:SSs X st (tsOf K E m)
structure DG (X:Cx) (K:PySem.W.Frag) (e:Expr) (m:DS.GM):Prop where h:SG X e (gOf K m)
structure DGs (X:Cx) (K:PySem.W.Frag) (es:List Expr) (m:List DS.GM):Prop where h:SGs X es (gsOf K (DS.gAll m))
structure DI (X:Cx) (K:PySem.W.Frag) (E:XE) (tg e:Expr) (m:DS.IM):Prop where h:SI X tg e (iOf K E m)
section
variable {X:Cx}{K:PySem.W.Frag}{E:XE}{e a b c:Expr}{es:List Expr}{p pos:Pos}{m ma mb mc:DS.EM}{mt mu:DS.TM}
theorem SE.imp {t t':TE}(h:SE X e t) (k:∀σ H Q,t' σ H Q->t σ H Q):SE X e t':=⟨fun pins s σ H Q I q=>h.h pins s σ H Q I (k σ H Q q)⟩
theorem ST.imp {t t':TT}(h:ST X e t) (k:∀σ H Q,t' σ H Q->t σ H Q):ST X e t':=⟨fun pins s σ H Q I q=>h.h pins s σ H Q I (k σ H Q q)⟩
theorem SW.imp {t t':TT}(h:SW X e t) (k:∀σ H Q,t' σ H Q->t σ H Q):SW X e t':=⟨fun whole pins s σ H Q I q=>h.h whole pins s σ H Q I (k σ H Q q)⟩
theorem SIfs.imp {t t':TT}(h:SIfs X es t) (k:∀σ H Q,t' σ H Q->t σ H Q):SIfs X es t':=⟨fun pins s σ H Q I q=>h.h pins s σ H Q I (k σ H Q q)⟩
theorem SA.imp {t t':TA}(h:SA X es t) (k:∀σ H Q,t' σ H Q->t σ H Q):SA X es t':=⟨fun pos pins s σ H Q I q=>h.h pos pins s σ H Q I (k σ H Q q)⟩
theorem SS.imp {st:Stmt}{t t':TS}(h:SS X st t) (k:∀D σ H,t' D σ H->t D σ H):SS X st t':=⟨fun pins s σ H D I q=>h.h pins s σ H D I (k D σ H q)⟩
theorem SSs.imp {st:List Stmt}{t t':TS}(h:SSs X st t) (k:∀D σ H,t' D σ H->t D σ H):SSs X st t':=⟨fun pins s σ H D I q=>h.h pins s σ H D I (k D σ H q)⟩
theorem SG.imp {t t':TG}(h:SG X e t) (k:∀v σ H Q,t' v σ H Q->t v σ H Q):SG X e t':=⟨fun pins s σ H v u Q I r q=>h.h pins s σ H v u Q I r (k v σ H Q q)⟩
theorem SGs.imp {t t':TGs}(h:SGs X es t) (k:∀v σ H Q,t' v σ H Q->t v σ H Q):SGs X es t':=⟨fun pins s σ H v u Q I r q=>h.h pins s σ H v u Q I r (k v σ H Q q)⟩
theorem SI.imp {tg:Expr}{t t':TI}(h:SI X tg e t) (k:∀σ H R,t' σ H R->t σ H R):SI X tg e t':=⟨fun pins s σ H R I q=>h.h pins s σ H R I (k σ H R q)⟩
theorem ObD.rep {K:PySem.W.Frag}{J:Js}{S:Store}{H:Hp}{d:D}{o:HO}{p:Addr}(ha:AbS K J S H) (n:H p=none) (r:ObD K J H d o):Rep K J (upd H p o) d (.ref p):=by
 have r2:=r.grow (Grow.push (o:=o) n)
 have hp:=ha.out n
 cases d with
 | lst ds=>obtain⟨xs,rfl,rl⟩:=r2;exact⟨p,xs,rfl,⟨zAd,hp⟩,rl⟩
 | dct _ ks vs=>obtain⟨xs,t,rl⟩:=r2;exact⟨p,o,xs,rfl,hp,.inl zAd,t,rl⟩
 | _=>exact False.elim r2
theorem zZ2 (h:DF X K E e m):DE X K E e m:=⟨h.h.imp fun σ H Q ⟨env,S,J,ha,he,q⟩=>⟨env,S,J,ha,he,q.map fun d S' J' H' _ h1 g k p o n r=>
 k J' (upd H' p o) (h1.push n) (g.trans (.push n)) (.ref p) (r.rep h1 n)⟩⟩
theorem zXl (h:DF X K E e m):DE X K E e (DS.eNew m):=⟨h.h.imp fun σ H Q ⟨env,S,J,ha,he,q⟩=>⟨env,S,J,ha,he,q.bind.map fun d S' J' H' _ h1 g k p o n r=>
 k J' H' h1 g (J'++[p]) (upd H' p o) (h1.name n r) (.name n) (.ref p) ⟨p,by rw[<- h1.len,vw (xi _)];simp,rfl⟩⟩⟩
theorem zXf (i:Nat) {x:Str}(hN:X.N[i]?=some x:=by rfl) (hv:Vis X.env.scope x:=by first|exact Or.inl rfl|exact Or.inr (Or.inl rfl)|exact Or.inr (Or.inr rfl)) (hd:(x == ("__debug__":Str))=false:=by decide)
  (hcd:(x == ("__classdict__":Str))=false:=by decide):DE X K E (.Name x pos) (DS.eVar i):=⟨(pv' i hN hv hd hcd).imp fun σ H Q hq2=>by
 obtain⟨env,S,J,ha,he,q⟩:=hq2
 unfold DS.eVar at q
 cases e1:env[i]? with
 | none=>rw[e1]at q;exact False.elim q
 | some o=>
  cases o with
  | none=>rw[e1]at q;exact False.elim q
  | some d=>
   rw[e1]at q
   obtain⟨v,ev,r⟩:=he.get i d e1
   exact⟨v,ev,q J H ha .refl v r⟩⟩
theorem de_c {v:V}{d:D}(h:SE X e (tC v)) (r:∀J H,Rep K J H d v):DE X K E e (DS.eC d):=⟨h.imp fun σ H Q hz1=>by obtain⟨env,S,J,ha,he,q⟩:=hz1;exact q J H ha .refl v (r J H)⟩
theorem zQo {i:Int}{j:_}:DE X K E (.Constant (.int i) j pos) (DS.eC (.int i)):=de_c zRy fun _ _=>rfl
theorem zZ7 {i:Bool}{j:_}:DE X K E (.Constant (.bool i) j pos) (DS.eC (.bl i)):=de_c zVm fun _ _=>rfl
theorem zXi {i:Str}{j:_}:DE X K E (.Constant (.str i) j pos) (DS.eC (.str i)):=de_c zL2 fun _ _=>rfl
theorem zYz {x:Str}{T:String}{u:Value}(hg:Gl X x) (hm:X.mg x=none) (hv:bootBuiltins x=some u) (r:RelV (.ty T) u) (hn:x≠"__name__":=by decide) (hd:(x == ("__debug__":Str))=false:=by decide):DE X K E (.Name x pos) (DS.eC (.ty T)):=de_c (zOp hg hm hv r hn hd) fun _ _=>rfl
theorem zHt {r:R2}{g:Store->D->D->Option D}(hr:∀x y H Q,r2Of K g x y H Q->r x y H Q):∀σ H Q,tOf K E (DS.eOp g ma mb) σ H Q->tOp r (tOf K E ma) (tOf K E mb) σ H Q:=fun σ H Q ⟨env,S,J,ha,he,q⟩=>
 ⟨env,S,J,ha,he,q.bind.imp fun d1 S1 J1 H1 _ a1 g1 q1 x rx=>⟨env,S1,J1,a1,he.grow g1,q1.bind.imp fun d2 S2 J2 H2 _ a2 g2 q2 y ry=>by
  obtain⟨d,e,k⟩:=q2.lift
  exact hr _ _ _ _ ⟨J2,S2,d1,d2,d,a2,Rep.grow g2 _ _ rx,ry,e,fun v H' h1 h2 h3=>k J2 H' h1 h2 v h3⟩⟩⟩
theorem zZ1 {op:Operator}{g:Store->D->D->Option D}(ho:OpR X (binaryOp op) (r2Of K g)) (ha:DE X K E a ma) (hb:DE X K E b mb):DE X K E (.BinOp a op b pos) (DS.eOp g ma mb):=⟨(zVf ho ha.h hb.h).imp (zHt fun _ _ _ _ h=>h)⟩
theorem zXn {op:CmpOp}{g:Store->D->D->Option D}(ho:OpR X (compareOp op) (r2Of K g)) (ha:DE X K E a ma) (hb:DE X K E b mb) (hm:behindInMarks op b=false):DE X K E (.Compare a [op] [b] pos) (DS.eOp g ma mb):=⟨(zOn ho ha.h hb.h hm).imp (zHt fun _ _ _ _ h=>h)⟩
theorem zZ4 {g:Store->D->D->Option D}(hr:IxR X (r2Of K g)) (ha:DE X K E a ma) (hb:DE X K E b mb) (h:nsl b=true:=by rfl):DE X K E (.Subscript a b pos) (DS.eOp g ma mb):=⟨(qix' hr ha.h hb.h h).imp (zHt fun _ _ _ _ h=>h)⟩
theorem zXg {op:UnaryOp}{g:Store->D->Option D}(ho:UnR X (unaryOp op) (r1Of K g)) (ha:DE X K E a ma):DE X K E (.UnaryOp op a pos) (DS.eUn g ma):=⟨(zVc ho ha.h).imp fun σ H Q ⟨env,S,J,h,he,q⟩=>
 ⟨env,S,J,h,he,q.bind.imp fun d1 S1 J1 H1 _ a1 g1 q1 x rx=>by
  obtain⟨d,e,k⟩:=q1.lift
  exact⟨J1,S1,d1,d,a1,rx,e,fun v H' h1 h2 h3=>k J1 H' h1 h2 v h3⟩⟩⟩
theorem zXp:DA X K E [] DS.aNil:=⟨pa_nil'.imp fun σ H Q hz2=>by obtain⟨env,S,J,ha,he,q⟩:=hz2;exact q J H ha .refl [] rfl,fun _ _ _ _ e=>by cases e;rfl⟩
theorem zTx {am:DS.AM}(ha:DE X K E e m) (hr:DA X K E es am) (h:nst e=true:=by rfl):DA X K E (e::es) (DS.zA0 m am):=by
 refine⟨(qa' ha.h hr.h h).imp fun σ H Q ⟨env,S,J,h,he,q⟩=>⟨env,S,J,h,he,q.bind.imp fun d1 S1 J1 H1 _ a1 g1 q1 x rx=>⟨env,S1,J1,a1,he.grow g1,q1.bind.imp fun d2 S2 J2 H2 _ a2 g2 q2 ys ry=>
  q2 J2 H2 a2 .refl (x::ys) ⟨x,ys,rfl,Rep.grow g2 _ _ rx,ry⟩⟩⟩,fun env S ds S' e1=>?_⟩
 unfold DS.zA0 at e1
 cases e2:m env S with
 | ok d S1=>
  rw[e2,Rs.bind_ok]at e1
  cases e3:am env S1 with
  | ok dr S2=>rw[e3,Rs.bind_ok]at e1;cases e1;simp[hr.len _ _ _ _ e3]
  | _=>rw[e3]at e1;cases e1
 | _=>rw[e2]at e1;cases e1
theorem z1000 {n:Nat}(h:n<=1000):n<=sizeLine:=xp h (by decide)
theorem zXh {am:DS.AM}{k:Nat}(h:DA X K E es am) (hz:es.length<=1000:=by decide):DE X K E (.Tuple es k pos) (DS.eTup am):=⟨(zRv h.h).imp fun σ H Q ⟨env,S,J,ha,he,q⟩=>
 ⟨env,S,J,ha,he,q.bind.imp fun ds S1 J1 H1 e1 a1 g1 q1 xs rx=>⟨by rw[<- rx.length,h.len _ _ _ _ e1];exact z1000 hz,fun p n=>
  q1 J1 (upd H1 p (.tup xs)) (a1.push n) (.push n) (.ref p) ⟨p,xs,rfl,⟨zAd,a1.out n⟩,RepL.grow (.push n) _ _ rx⟩⟩⟩⟩
theorem zXe {am:DS.AM}(h:DA X K E es am) (hz:es.length<=1000:=by decide):DF X K E (.List es pos) (DS.eLst am):=⟨(zRx h.h).imp fun σ H Q ⟨env,S,J,ha,he,q⟩=>
 ⟨env,S,J,ha,he,q.bind.imp fun ds S1 J1 H1 e1 a1 g1 q1 xs rx=>⟨by rw[<- rx.length,h.len _ _ _ _ e1];exact z1000 hz,fun p n=>
  q1 J1 H1 a1 .refl p (.lst xs) n ⟨xs,rfl,rx⟩⟩⟩⟩
theorem zXt {r:List V->Hp->VK->Prop}{am:DS.AM}{g:Store->List D->Option D}(hr:∀xs H Q,cOf K g xs H Q->r xs H Q):∀σ H Q,tOf K E (DS.eCB g am) σ H Q->tCB r (aOf K E am) σ H Q:=fun σ H Q ⟨env,S,J,ha,he,q⟩=>
 ⟨env,S,J,ha,he,q.bind.imp fun ds S1 J1 H1 _ a1 g1 q1 xs rx=>by
  obtain⟨d,e,k⟩:=q1.lift
  exact hr _ _ _ ⟨J1,S1,ds,d,a1,rx,e,fun v H' h1 h2 h3=>k J1 H' h1 h2 v h3⟩⟩
theorem zXs {r:List V->Hp->VK->Prop}{am:DS.AM}{g:Store->List D->Option D}(hr:∀xs H Q,cOfF K g xs H Q->r xs H Q):∀σ H Q,tOfF K E (DS.eCB g am) σ H Q->tCB r (aOf K E am) σ H Q:=fun σ H Q ⟨env,S,J,ha,he,q⟩=>
 ⟨env,S,J,ha,he,q.bind.imp fun ds S1 J1 H1 _ a1 g1 q1 xs rx=>by
  obtain⟨d,e,k⟩:=q1.lift
  exact hr _ _ _ ⟨J1,S1,ds,d,a1,rx,e,fun p o H' h1 h2 h3=>k J1 H' h1 h2 p o h3⟩⟩
theorem zZ6 {x:Str}{id:String}{am:DS.AM}{g:Store->List D->Option D}(hc:zAx X (.builtin id) (cOf K g)) (hg:Gl X x) (hm:X.mg x=none) (hv:bootBuiltins x=some (.builtin id)) (ha:DA X K E (e::es) am) (hn:x≠"__name__":=by decide) (hdb:(x == ("__debug__":Str))=false:=by decide)
  (h:(e::es).all nst=true:=by rfl):DE X K E (.Call (.Name x p) (e::es) [] pos) (DS.eCB g am):=⟨(zRd hc hg hm hv ha.h hn hdb h).imp (zXt fun _ _ _ h=>h)⟩
theorem zZ5 {x:Str}{T:String}{am:DS.AM}{g:Store->List D->Option D}(hc:zAx X (.type T) (cOf K g)) (hg:Gl X x) (hm:X.mg x=none) (hv:bootBuiltins x=some (.type T)) (ha:DA X K E (e::es) am) (hn:x≠"__name__":=by decide) (hdb:(x == ("__debug__":Str))=false:=by decide)
  (h:(e::es).all nst=true:=by rfl):DE X K E (.Call (.Name x p) (e::es) [] pos) (DS.eCB g am):=⟨(zKo hc hg hm hv ha.h hn hdb h).imp (zXt fun _ _ _ h=>h)⟩
theorem zYy {x:Str}{T:String}{am:DS.AM}{g:Store->List D->Option D}(hc:zAx X (.type T) (cOfF K g)) (hg:Gl X x) (hm:X.mg x=none) (hv:bootBuiltins x=some (.type T)) (ha:DA X K E (e::es) am) (hn:x≠"__name__":=by decide) (hdb:(x == ("__debug__":Str))=false:=by decide)
  (h:(e::es).all nst=true:=by rfl):DF X K E (.Call (.Name x p) (e::es) [] pos) (DS.eCB g am):=⟨(zKo hc hg hm hv ha.h hn hdb h).imp (zXs fun _ _ _ h=>h)⟩
theorem zTw {x:Str}{k:Nat}{ps:List Str}{F:DS.Fn}{am:DS.AM}(C:Cal X.prog X.w X.K X.mg X.base x k ps (spOf K E F)) (hr:Room k X.A) (hg:Gl X x) (ha:DA X K E (e::es) am) (hdb:(x == ("__debug__":Str))=false:=by decide)
  (h:(e::es).all nst=true:=by rfl):DE X K E (.Call (.Name x p) (e::es) [] pos) (DS.zA9 F am):=⟨(qcal' C hr hg ha.h hdb h).imp fun σ H Q ⟨env,S,J,h,he,q⟩=>
 ⟨env,S,J,h,he,q.bind.imp fun ds S1 J1 H1 _ a1 g1 q1 xs rx=>by
  show spOf K E F (xs++[]) H1 Q E0
  rw[v9]
  exact⟨J1,S1,ds,a1,rx,q1⟩⟩⟩
theorem zUe {J:Js}{S:Store}{H:Hp}{d:D}{v:V}{T:String}(ha:AbS K J S H) (r:Rep K J H d v) (hT:T="str"\/T="list"\/T="dict") (h:DS.tyD S d=some T):tyV K T v H:=by
 cases d with
 | str x=>obtain rfl:=r;cases h;exact rfl
 | lst ds=>obtain⟨a,xs,rfl,t,_⟩:=r;cases h;exact .inl ⟨rfl,xs,t.sq⟩
 | klst ds=>obtain⟨a,xs,rfl,t,_⟩:=r;cases h;exact .inl ⟨rfl,xs,t.sq⟩
 | dct _ ks vs=>
  obtain⟨a,o,xs,rfl,_,e,t,_⟩:=r;cases h
  refine .inr (.inr (.inl ⟨rfl,?_⟩))
  rcases t with⟨_,kvs,rfl,_⟩|⟨_,kvs,rfl,_⟩
  ·exact .inl ⟨kvs,e⟩
  ·exact .inr ⟨kvs,e⟩
 | ref n=>
  obtain⟨a,ea,rfl⟩:=r
  obtain⟨c,ec,o,eo,rc⟩:=ha.at ea
  have el:DS.look S (.ref n)=some c:=ec
  unfold DS.tyD at h
  rw[el]at h
  cases c with
  | lst ds=>cases h;obtain⟨xs,rfl,_⟩:=rc;exact .inl ⟨rfl,xs,.inl (.inl eo)⟩
  | dct _ ks vs=>
   cases h
   obtain⟨xs,t,_⟩:=rc
   refine .inr (.inr (.inl ⟨rfl,?_⟩))
   rcases t with⟨_,kvs,rfl,_⟩|⟨_,kvs,rfl,_⟩
   ·exact .inl ⟨kvs,.inl eo⟩
   ·exact .inr ⟨kvs,.inl eo⟩
  | _=>exact False.elim rc
 | _=>first|(cases h;rcases hT with z|z|z <;> exact absurd z (by decide))|cases h
theorem zW0 {T:String}{r:V->List V->Hp->VK->Prop}{am:DS.AM}{g:Store->D->List D->Option (D × Store)}(hT:T="str"\/T="list"\/T="dict") (hr:∀x xs H Q,mOf K g x xs H Q->r x xs H Q):∀σ H Q,tOf K E (DS.eMt T g ma am) σ H Q->tBM K T r (tOf K E ma) (aOf K E am) σ H Q:=fun σ H Q ⟨env,S,J,ha,he,q⟩=>
 ⟨env,S,J,ha,he,q.bind.imp fun d1 S1 J1 H1 _ a1 g1 q1 x rx=>by
  by_cases hty:DS.tyD S1 d1=some T
  ·rw[xg hty]at q1
   refine⟨zUe a1 rx hT hty,env,S1,J1,a1,he.grow g1,q1.bind.imp fun ds S2 J2 H2 _ a2 g2 q2 xs rs=>?_⟩
   cases e:g S2 d1 ds with
   | none=>rw[e]at q2;exact False.elim q2
   | some w=>
    rw[e]at q2
    exact hr _ _ _ _ ⟨J2,S2,d1,ds,w.1,w.2,a2,Rep.grow g2 _ _ rx,rs,e,fun v H' h1 h2 h3=>q2 J2 H' h1 h2 v h3⟩
  ·rw[xh hty]at q1;exact False.elim q1⟩
theorem zZ3 {T name id:_}{o:Expr}{apos cpos:Pos}{g:Store->D->List D->Option (D × Store)}{mo:DS.EM}{am:DS.AM}(pa:PlainAttrs T) (slot:Slot T name id) (hty:typeOf (.builtin id)=pure (.type "method_descriptor")) (hm:MtR X id (mOf K g))
  (hT:T="str"\/T="list"\/T="dict") (ho:DE X K E o mo) (ha:DA X K E (e::es) am) (h:nba o=true:=by rfl) (hs:(e::es).all nst=true:=by rfl)
  (hlen:decide ((e::es).length+0+0<30)=true:=by rfl) (hline:(apos.endLine == cpos.line)=true:=by rfl) (hK:X.K=K:=by rfl):DE X K E (.Call (.Attribute o name apos) (e::es) [] cpos) (DS.eMt T g mo am):=by
 subst hK
 exact⟨(zVl pa slot hty hm ho.h ha.h h hs hlen hline).imp (zW0 hT fun _ _ _ _ h=>h)⟩
theorem zXm {T name id:_}{o:Expr}{apos cpos:Pos}{g:Store->D->List D->Option (D × Store)}{mo:DS.EM}(pa:PlainAttrs T) (slot:Slot T name id) (hty:typeOf (.builtin id)=pure (.type "method_descriptor")) (hm:MtR X id (mOf K g))
  (hT:T="str"\/T="list"\/T="dict") (ho:DE X K E o mo) (h:nba o=true:=by rfl) (hline:(apos.endLine == cpos.line)=true:=by rfl) (hK:X.K=K:=by rfl):DE X K E (.Call (.Attribute o name apos) [] [] cpos) (DS.eMt T g mo DS.aNil):=by
 subst hK
 refine⟨(qbm0' pa slot hty hm ho.h h hline).imp fun σ H Q h=>?_⟩
 obtain⟨env,S,J,ha,he,q⟩:=zW0 hT (fun _ _ _ _ h=>h) σ H Q h
 refine⟨env,S,J,ha,he,q.imp fun d1 S1 J1 H1 _ a1 g1 q1 x rx=>?_⟩
 obtain⟨ht,env',S',J',ha',he',q'⟩:=q1 x rx
 exact⟨ht,q' J' H1 ha' .refl [] rfl⟩
noncomputable def poOf (K:PySem.W.Frag) (E:XE) (m:DS.Env->Store->Rs (Option Int)):TO:=fun σ H Q=>∃env S J,AbS K J S H/\RepE K J H env σ/\Post K E J H (m env S) (fun oi _ _ H'=>Q oi H')
structure DO (X:Cx) (K:PySem.W.Frag) (E:XE) (e:Option Expr) (m:DS.Env->Store->Rs (Option Int)):Prop where h:SO X e (poOf K E m)
theorem SO.imp {o:Option Expr}{t t':TO}(h:SO X o t) (k:∀σ H Q,t' σ H Q->t σ H Q):SO X o t':=⟨fun pins s σ H Q I q=>h.h pins s σ H Q I (k σ H Q q)⟩
theorem zYw:DO X K E none DS.pNo:=⟨po_none'.imp fun σ H Q hz3=>by obtain⟨env,S,J,ha,he,q⟩:=hz3;exact q J H ha .refl⟩
theorem zX8 (h:DE X K E e m):DO X K E (some e) (DS.pYes m):=⟨(zOb h.h).imp fun σ H Q ⟨env,S,J,ha,he,q⟩=>⟨env,S,J,ha,he,q.bind.imp fun d S1 J1 H1 _ a1 g1 q1 x rx=>by
 obtain⟨oi,e,k⟩:=q1.lift
 cases d with
 | int i=>cases e;obtain rfl:=rx;exact⟨i,rfl,k J1 H1 a1 .refl⟩
 | _=>cases e⟩⟩
noncomputable def slOf (K:PySem.W.Frag) (g:Store->D->Option Int->Option Int->Option D):V->Option Int->Option Int->Hp->VK->Prop:=fun x lo hi H Q=>∃J S d1 d,AbS K J S H/\Rep K J H d1 x/\g S d1 lo hi=some d/\∀v H',AbS K J S H'->Grow J H J H'->Rep K J H' d v->Q v H'
theorem zZ0 {g:Store->D->Option Int->Option Int->Option D}{lo hi:Option Expr}{ml mh:DS.Env->Store->Rs (Option Int)}{p2:Pos}(hr:SlR X (slOf K g)) (he:DE X K E e m) (hl:DO X K E lo ml) (hu:DO X K E hi mh):DE X K E (.Subscript e (.Slice lo hi none p2) pos) (DS.eSl g m ml mh):=
 ⟨(zL3 hr he.h hl.h hu.h).imp fun σ H Q ⟨env,S,J,ha,he,q⟩=>⟨env,S,J,ha,he,q.bind.imp fun d S1 J1 H1 _ a1 g1 q1 x rx=>⟨env,S1,J1,a1,he.grow g1,q1.bind.imp fun l S2 J2 H2 _ a2 g2 q2=>
  ⟨env,S2,J2,a2,he.grow (g1.trans g2),q2.bind.imp fun h S3 J3 H3 _ a3 g3 q3=>by
   obtain⟨r,er,k⟩:=q3.lift
   exact⟨J3,S3,d,r,a3,Rep.grow (g2.trans g3) _ _ rx,er,fun v H' h1 h2 h3=>k J3 H' h1 h2 v h3⟩⟩⟩⟩⟩
theorem zQr {J:Js}{H:Hp}{d:D}{x:V}{k:Bool}(e:DS.asB d=some k) (r:Rep K J H d x):x=.bl k:=by
 cases d with
 | bl i=>cases e;exact r
 | _=>cases e
theorem zY2:∀σ H Q,ttOf K E (DS.tB m) σ H Q->tOf K E m σ H (fun x H'=>∃k,x=.bl k/\Q k H'):=fun σ H Q ⟨env,S,J,ha,he,q⟩=>⟨env,S,J,ha,he,q.bind.imp fun d S1 J1 H1 _ a1 g1 q1 x rx=>by
 obtain⟨k,e,z⟩:=q1.lift
 exact⟨k,zQr e rx,z J1 H1 a1 .refl⟩⟩
theorem zX5 {op:CmpOp}{g:Store->D->D->Option D}(ho:OpR X (compareOp op) (r2Of K g)) (ha:DE X K E a ma) (hb:DE X K E b mb) (hm:behindInMarks op b=false):DT X K E (.Compare a [op] [b] pos) (DS.tB (DS.eOp g ma mb)):=
 ⟨(zO5 ho ha.h hb.h hm).imp fun σ H Q h=>zHt (fun _ _ _ _ h=>h) σ H _ (zY2 σ H Q h)⟩
theorem zX4 (ha:DT X K E a mt):DT X K E (.UnaryOp .Not a pos) (DS.tNot mt):=⟨(zRi ha.h).imp fun σ H Q hz4=>by obtain⟨env,S,J,ha,he,q⟩:=hz4;exact ⟨env,S,J,ha,he,q.bind.imp fun k S1 J1 H1 _ a1 g1 q1=>q1 J1 H1 a1 .refl⟩⟩
theorem zTb (ha:DT X K E a mt):DW X K E (.BoolOp .And [a] pos) mt:=⟨zO1 ha.h⟩
theorem zWx (ha:DT X K E a mt):DW X K E (.BoolOp .Or [a] pos) mt:=⟨zRe ha.h⟩
theorem zWy (ha:DT X K E a mt) (hb:DW X K E (.BoolOp .And (b::es) pos) mu):DW X K E (.BoolOp .And (a::b::es) pos) (DS.tAnd mt mu):=⟨(zRg ha.h hb.h).imp fun σ H Q ⟨env,S,J,ha,he,q⟩=>⟨env,S,J,ha,he,q.bind.imp fun k S1 J1 H1 _ a1 g1 q1=>by
 cases k with
 | true=>exact⟨env,S1,J1,a1,he.grow g1,q1⟩
 | false=>exact q1 J1 H1 a1 .refl⟩⟩
theorem zYr (ha:DT X K E a mt) (hb:DW X K E (.BoolOp .Or (b::es) pos) mu):DW X K E (.BoolOp .Or (a::b::es) pos) (DS.tOr mt mu):=⟨(zUy ha.h hb.h).imp fun σ H Q ⟨env,S,J,ha,he,q⟩=>⟨env,S,J,ha,he,q.bind.imp fun k S1 J1 H1 _ a1 g1 q1=>by
 cases k with
 | true=>exact q1 J1 H1 a1 .refl
 | false=>exact⟨env,S1,J1,a1,he.grow g1,q1⟩⟩⟩
theorem dt_w (h:DW X K E e mt):DT X K E e mt:=⟨zUw h.h⟩
theorem zXo (ha:DE X K E a ma) (hb:DE X K E (.BoolOp .And (b::es) pos) mb):DE X K E (.BoolOp .And (a::b::es) pos) (DS.eAnd ma mb):=⟨(zS3 ha.h hb.h).imp fun σ H Q ⟨env,S,J,ha,he,q⟩=>⟨env,S,J,ha,he,q.bind.imp fun d S1 J1 H1 _ a1 g1 q1 x rx=>by
 obtain⟨k,e,z⟩:=q1.bind.lift
 have z:=z J1 H1 a1 .refl
 refine⟨k,zQr e rx,?_⟩
 cases k with
 | true=>exact⟨env,S1,J1,a1,he.grow g1,z⟩
 | false=>exact z J1 H1 a1 .refl _ rfl⟩⟩
theorem zXk {op:BoolOp}(ha:DE X K E a ma):DE X K E (.BoolOp op [a] pos) ma:=⟨zRw ha.h⟩
theorem zTn:DIf X K E [] DS.tYes:=⟨pifs_nil'.imp fun σ H Q hz5=>by obtain⟨env,S,J,ha,he,q⟩:=hz5;exact q J H ha .refl⟩
theorem zTm (h:DT X K E c mt):DIf X K E [c] mt:=⟨zKy h.h⟩
theorem zB4 {J:Js}{H:Hp}{ds:List D}{xs:List V}(r:RepL K J H ds xs):decide (ds≠[])=!xs.isEmpty:=by
 cases ds with
 | nil=>cases r;simp
 | cons d ds=>obtain⟨x,t,rfl,_⟩:=r;simp
theorem zQx {J:Js}{S:Store}{H:Hp}{d:D}{v:V}{k:Bool}(ha:AbS K J S H) (r:Rep K J H d v) (h:DS.truth S d=some k):TruV K v H k:=by
 cases d with
 | non=>obtain rfl:=r;cases h;exact rfl
 | bl b=>obtain rfl:=r;cases h;exact rfl
 | int i=>
  obtain rfl:=r
  have h:=xP h
  subst h
  show decide (i≠0)=(i != 0)
  by_cases z:i=0 <;> simp[z]
 | str x=>
  obtain rfl:=r
  have h:(if x.length<=DS.most then some (decide (x.length≠0))else none)=some k:=h
  by_cases z:x.length<=DS.most
  ·rw[xg z]at h
   have h:=xP h
   subst h
   refine⟨z,?_⟩
   by_cases z:x.length=0 <;> simp[z]
  ·rw[xh z]at h;cases h
 | tup ds=>obtain⟨a,xs,rfl,t,rl⟩:=r;cases h;exact .inr (.inl ⟨xs,t.sq,zB4 rl⟩)
 | ktup ds=>obtain⟨a,xs,rfl,t,rl⟩:=r;cases h;exact .inr (.inl ⟨xs,t.sq,zB4 rl⟩)
 | klst ds=>obtain⟨a,xs,rfl,t,rl⟩:=r;cases h;exact .inl ⟨xs,t.sq,zB4 rl⟩
 | lst ds=>obtain⟨a,xs,rfl,t,rl⟩:=r;cases h;exact .inl ⟨xs,t.sq,zB4 rl⟩
 | ref n=>
  obtain⟨a,ea,rfl⟩:=r
  obtain⟨c,ec,o,eo,rc⟩:=ha.at ea
  have el:DS.look S (.ref n)=some c:=ec
  unfold DS.truth at h
  rw[el]at h
  cases c with
  | lst ds=>cases h;obtain⟨xs,rfl,rl⟩:=rc;exact .inl ⟨xs,.inl (.inl eo),zB4 rl⟩
  | dct _ ks vs=>cases h
  | _=>exact False.elim rc
 | _=>cases h
theorem zX3 (ha:DE X K E e m) (h:ntt e=true:=by rfl) (hK:X.K=K:=by rfl):DT X K E e (DS.tTru m):=by
 subst hK
 exact⟨(qtruth' ha.h h).imp fun σ H Q ⟨env,S,J,ha,he,q⟩=>⟨env,S,J,ha,he,q.bind.imp fun d S1 J1 H1 _ a1 g1 q1 x rx=>by
  obtain⟨k,e,z⟩:=q1.lift
  exact⟨k,zQx a1 rx e,z J1 H1 a1 .refl⟩⟩⟩
theorem RepE.set {J:Js}{H:Hp}{env:DS.Env}{σ:St}{d:D}{v:V}{i:Nat}(h:RepE K J H env σ) (r:Rep K J H d v):RepE K J H (env.set i (some d)) (σ.set i (some v)):=by
 refine⟨by simp[h.len],fun j d' e=>?_⟩
 by_cases hj:i=j
 ·subst hj
  have hi:i<env.length:=by
   have:=(xK.mp e).1
   simpa using this
  rw[vq hi]at e
  cases e
  exact⟨v,vq (by rw[<- h.len];exact hi),r⟩
 ·rw[xM hj]at e
  rw[xM hj]
  exact h.get j d' e
theorem zTp {j:Nat}{x:Str}(hN:X.N.Nodup) (hi:X.N[j]?=some x) (hx:Loc X.env.scope x) (hf:X.fn x=true\/X.env.scope.names.lookup x=some .local:=by first|exact .inl rfl|exact .inr rfl|assumption):DG X K (.Name x pos) (DS.gName j):=
 ⟨(zOi hN hi hx hf).imp fun v σ H Q hq3=>by
  obtain⟨env,S,J,d,env',ha,he,r,e,k⟩:=hq3
  cases e
  exact k _ (he.set r)⟩
theorem zTo:DGs X K [] []:=⟨pgs_nil'.imp fun v σ H Q hq4=>by
 obtain⟨env,S,J,ds,env',ha,he,r,e,k⟩:=hq4
 cases ds with
 | nil=>cases e;cases r;exact⟨rfl,k _ he⟩
 | cons d ds=>cases e⟩
theorem zPj {tg:Expr}{ts:List Expr}{g:DS.GM}{gs:List DS.GM}(h1:DG X K tg g) (h2:DGs X K ts gs) (h:nst tg=true:=by rfl):DGs X K (tg::ts) (g::gs):=⟨(qgs' h1.h h2.h h).imp fun v σ H Q hq5=>by
 obtain⟨env,S,J,ds,env',ha,he,r,e,k⟩:=hq5
 cases ds with
 | nil=>cases e
 | cons d ds=>
  obtain⟨x,xs,rfl,rx,rl⟩:=r
  unfold DS.gAll at e
  cases e1:g S d env with
  | none=>rw[e1]at e;cases e
  | some env1=>
   rw[e1]at e
   exact⟨x,xs,rfl,env,S,J,d,env1,ha,he,rx,e1,fun σ' he'=>⟨env1,S,J,ds,env',ha,he',rl,e,k⟩⟩⟩
theorem zBx:∀{gs:List DS.GM}{S:Store}{ds:List D}{env env':DS.Env},DS.gAll gs S ds env=some env'->ds.length=gs.length
 | [],_,[],_,_,_=>rfl
 | [],_,_::_,_,_,e=>by cases e
 | _::_,_,[],_,_,e=>by cases e
 | g::gs,S,d::ds,env,env',e=>by
  unfold DS.gAll at e
  cases e1:g S d env with
  | none=>rw[e1]at e;cases e
  | some env1=>rw[e1]at e;simp[zBx e]
theorem SG.or {t u:TG}(h:SG X e t) (h':SG X e u):SG X e (fun v σ H Q=>t v σ H Q\/u v σ H Q):=⟨fun pins s σ H v w Q I r q=>by
 rcases q with q|q
 ·exact h.h pins s σ H v w Q I r q
 ·exact h'.h pins s σ H v w Q I r q⟩
theorem zXc {ts:List Expr}{k:Nat}{gs:List DS.GM}(hc:X.calm=true) (h:DGs X K ts gs) (hn:ts.length=gs.length:=by rfl) (h1:ts.all nst=true:=by rfl) (hK:X.K=K:=by rfl):DG X K (.Tuple ts k pos) (DS.gTup gs):=by
 subst hK
 refine⟨((qtup' hc h.h hn h1).or (qunl' hc h.h hn h1)).imp fun v σ H Q hq1=>?_⟩
 obtain⟨env,S,J,d,env',ha,he,r,e,k⟩:=hq1
 unfold DS.gTup DS.items DS.look at e
 cases d with
 | tup ds=>obtain⟨a,xs,rfl,t,rl⟩:=r;exact .inl ⟨a,xs,rfl,t.sq,by rw[<- rl.length];exact zBx e,env,S,J,ds,env',ha,he,rl,e,k⟩
 | klst ds=>obtain⟨a,xs,rfl,t,rl⟩:=r;exact .inr ⟨a,xs,rfl,t.sq,by rw[<- rl.length];exact zBx e,env,S,J,ds,env',ha,he,rl,e,k⟩
 | ktup ds=>obtain⟨a,xs,rfl,t,rl⟩:=r;exact .inl ⟨a,xs,rfl,t.sq,by rw[<- rl.length];exact zBx e,env,S,J,ds,env',ha,he,rl,e,k⟩
 | lst ds=>obtain⟨a,xs,rfl,t,rl⟩:=r;exact .inr ⟨a,xs,rfl,t.sq,by rw[<- rl.length];exact zBx e,env,S,J,ds,env',ha,he,rl,e,k⟩
 | ref n=>
  obtain⟨a,ea,rfl⟩:=r
  obtain⟨c,ec,o,eo,rc⟩:=ha.at ea
  simp only[ec]at e
  cases c with
  | lst ds=>obtain⟨xs,rfl,rl⟩:=rc;exact .inr ⟨a,xs,rfl,.inl (.inl eo),by rw[<- rl.length];exact zBx e,env,S,J,ds,env',ha,he,rl,e,k⟩
  | dct _ ks vs=>cases e
  | _=>exact False.elim rc
 | _=>cases e
variable {st:Stmt}{sts:List Stmt}{ms mu' mv:DS.SM}
theorem zTj:DSs X K E [] DS.zCo:=⟨pss_nil'.imp fun D σ H hz6=>by obtain⟨env,S,J,ha,he,q⟩:=hz6;exact q J H σ ha .refl he⟩
theorem zFk (h:DS1 X K E st ms):DSs X K E [st] ms:=⟨zO6 h.h⟩
theorem zIj (h:DS1 X K E st ms) (k:DSs X K E sts mv):DSs X K E (st::sts) (DS.sSeq ms mv):=⟨(zKt h.h k.h).imp fun D σ H ⟨env,S,J,ha,he,q⟩=>⟨env,S,J,ha,he,by
 unfold DS.sSeq at q
 cases e:ms env S with
 | nx e1 S1=>rw[e]at q;exact fun J' H' σ' h1 g1 h2=>⟨e1,S1,J',h1,h2,PostS.grow g1 q⟩
 | _=>rw[e]at q;exact q⟩⟩
theorem zTg {j:Nat}{x:Str}{pos':Pos}(hN:X.N.Nodup) (hi:X.N[j]?=some x) (hx:Loc X.env.scope x) (he:DE X K E e m) (hf:X.fn x=true\/X.env.scope.names.lookup x=some .local:=by first|exact .inl rfl|exact .inr rfl|assumption) (h:nco e=true:=by rfl):
  DS1 X K E (.Assign [.Name x pos'] e pos) (DS.sSet j m):=⟨(qset' hN hi hx he.h hf h).imp fun D σ H hz7=>by obtain⟨env,S,J,ha,he,q⟩:=hz7;exact ⟨env,S,J,ha,he,q.then.imp fun d S1 J1 H1 _ a1 g1 q1 v rv=>q1 J1 H1 _ a1 .refl ((he.grow g1).set rv)⟩⟩
theorem zPf (he:DE X K E e m) (h:nco e=true:=by rfl):DS1 X K E (.Expr e pos) (DS.zKl m):=⟨(qexpr' he.h h).imp fun D σ H hz8=>by obtain⟨env,S,J,ha,he,q⟩:=hz8;exact ⟨env,S,J,ha,he,q.then.imp fun d S1 J1 H1 _ a1 g1 q1 v rv=>q1 J1 H1 σ a1 .refl (he.grow g1)⟩⟩
theorem zMe (he:DE X K E e m):DS1 X K E (.Return (some e) pos) (DS.sRet m):=⟨(zRn he.h).imp fun D σ H hz9=>by obtain⟨env,S,J,ha,he,q⟩:=hz9;exact ⟨env,S,J,ha,he,q.then.imp fun d S1 J1 H1 _ a1 g1 q1 v rv=>q1 J1 H1 v a1 .refl rv⟩⟩
theorem zQk {ba bb:List Stmt}(hc:DT X K E c mt) (ha:DSs X K E ba ms) (hb:DSs X K E bb mv):DS1 X K E (.If c ba bb pos) (DS.sIf mt ms mv):=⟨(zV5 hc.h ha.h hb.h).imp fun D σ H ⟨env,S,J,ha,he,q⟩=>⟨env,S,J,ha,he,q.then.imp fun k S1 J1 H1 _ a1 g1 q1=>by
 cases k with
 | true=>exact⟨env,S1,J1,a1,he.grow g1,q1⟩
 | false=>exact⟨env,S1,J1,a1,he.grow g1,q1⟩⟩⟩
theorem zPe {x y:Str}{px py pt pt2:Pos}{kt k2 i j:Nat}{am:DS.AM}(hc:X.calm=true) (hN:X.N.Nodup) (hi:X.N[i]?=some x) (hj:X.N[j]?=some y) (hij:i≠j)
  (hx:X.env.scope.names.lookup x=some .local) (hy:X.env.scope.names.lookup y=some .local) (ha:DA X K E [a,b] am)
  (hw:swappedStores [.Tuple [.Name x px,.Name y py] kt pt] (.Tuple [a,b] k2 pt2) X.env=pure (some [x,y])):
  DS1 X K E (.Assign [.Tuple [.Name x px,.Name y py] kt pt] (.Tuple [a,b] k2 pt2) pos) (DS.sPar [i,j] am):=⟨(qpar' hc hN hi hj hij hx hy ha.h hw).imp fun D σ H ⟨env,S,J,h,he,q⟩=>⟨env,S,J,h,he,q.then.imp fun ds S1 J1 H1 e1 a1 g1 q1 vs rv=>by
 have hl:=ha.len _ _ _ _ e1
 match ds,hl with
 | [d1,d2],_=>
  obtain⟨v1,r1,rfl,rv1,v2,r2,rfl,rv2,rfl⟩:=rv
  exact⟨v1,v2,rfl,q1 J1 H1 _ a1 .refl (((he.grow g1).set rv1).set rv2)⟩⟩⟩
theorem zMd {body:List Stmt}(hp:PassesOwn (model X.prog X.w) X.A X.env X.xe) (hc:DT X K E c mt) (hb:DSs X K E body ms):DS1 X K E (.While c body [] pos) (DS.zDi mt ms):=⟨(zKu hp hc.h hb.h).imp fun D σ H hq6=>by
 obtain⟨env,S,J,ha,he,q⟩:=hq6
 unfold DS.zDi at q
 by_cases hx:∃n,DS.zAp mt ms n env S≠.bad
 ·rw[dif_pos hx]at q
  generalize Classical.choose hx=n at q
  refine⟨fun n σ H=>∃env S J,AbS K J S H/\RepE K J H env σ/\PostS K E J H (DS.zAp mt ms n env S) D,⟨n,env,S,J,ha,he,q⟩,?_⟩
  rintro m σ H ⟨env,S,J,ha,he,q⟩
  cases m with
  | zero=>exact False.elim q
  | succ m=>
   refine⟨env,S,J,ha,he,(PostS.then (by unfold DS.zAp at q;exact q)).imp fun k S1 J1 H1 _ a1 g1 q1=>?_⟩
   cases k with
   | false=>exact q1 J1 H1 σ a1 .refl (he.grow g1)
   | true=>
    rw[xg rfl]at q1 ⊢
    refine⟨fun σ H=>∃env S J,AbS K J S H/\RepE K J H env σ/\PostS K E J H (DS.zAp mt ms m env S) D,fun σ' H' w=>⟨m,Nat.lt_succ_self m,w⟩,env,S1,J1,a1,he.grow g1,?_⟩
    cases e:ms env S1 with
    | nx e1 S2=>rw[e]at q1;exact fun J' H' σ' h1 g2 h2=>⟨e1,S2,J',h1,h2,PostS.grow g2 q1⟩
    | ct e1 S2=>rw[e]at q1;exact fun J' H' σ' h1 g2 h2=>⟨e1,S2,J',h1,h2,PostS.grow g2 q1⟩
    | _=>rw[e]at q1;exact q1
 ·rw[dif_neg hx]at q;exact False.elim q⟩
theorem zIk {α:Type}{l:List α}{i:Nat}(h:i<l.length):l.drop i=l[i]::l.drop (i+1):=List.drop_eq_getElem_cons h
theorem zTi {tg iter:Expr}{body:List Stmt}{im:DS.IM}{g:DS.GM}(hp:PassesOwn (model X.prog X.w) X.A X.env X.xe) (hc:X.calm=true) (hi:DI X K E tg iter im) (hg:DG X K tg g) (hb:DSs X K E body ms) (h:nse iter=true:=by rfl):
  DS1 X K E (.For tg iter body [] pos) (DS.sFor im g ms):=⟨(qfor' hp hc hi.h hg.h hb.h h).imp fun D σ H ⟨env,S,J,ha,he,q⟩=>⟨env,S,J,ha,he,q.then.imp fun w S1 J1 H1 _ a1 g1 q1 I ok=>by
 refine⟨fun i m σ H=>m+i=w.its.length/\∃env S J,AbS K J S H/\Grow J1 H1 J H/\RepE K J H env σ/\PostS K E J H (DS.forL w.gd g ms (w.its.drop i) env S) D,⟨w.its.length,rfl,env,S1,J1,a1,.refl,he.grow g1,q1⟩,?_⟩
 rintro i m σ H ⟨hm,env,S,J,ha,gr,he,q⟩
 by_cases hi:i<w.its.length
 ·rw[zIk hi]at q
  unfold DS.forL at q
  by_cases gd:DS.gOk S w.gd
  ·rw[xg gd]at q
   refine .inr ⟨ok.go i H J S ha gr gd hi,fun σ H=>(m-1)+(i+1)=w.its.length/\∃env S J,AbS K J S H/\Grow J1 H1 J H/\RepE K J H env σ/\PostS K E J H (DS.forL w.gd g ms (w.its.drop (i+1)) env S) D,fun σ' H' wq=>⟨m-1,by nofun,wq⟩,fun x H' y=>?_⟩
   obtain⟨a2,g2,rx⟩:=ok.yld i H J S x H' ha gr gd y _ (xu hi)
   cases eg:g S w.its[i] env with
   | none=>rw[eg]at q;exact False.elim q
   | some env'=>
    rw[eg]at q
    refine⟨env,S,J,w.its[i],env',a2,he.grow g2,rx,eg,fun σ2 he2=>⟨env',S,J,a2,he2,?_⟩⟩
    simp only at q
    cases e:ms env' S with
    | nx e1 S2=>rw[e]at q;exact fun J' H' σ' h1 g3 h2=>⟨by nofun,e1,S2,J',h1,gr.trans (g2.trans g3),h2,PostS.grow (g2.trans g3) q⟩
    | ct e1 S2=>rw[e]at q;exact fun J' H' σ' h1 g3 h2=>⟨by nofun,e1,S2,J',h1,gr.trans (g2.trans g3),h2,PostS.grow (g2.trans g3) q⟩
    | bk e1 S2=>rw[e]at q;exact fun J' H' σ' h1 g3 h2=>q J' H' σ' h1 (g2.trans g3) h2
    | rt e1 S2=>rw[e]at q;exact fun J' H' σ' h1 g3 h2=>q J' H' σ' h1 (g2.trans g3) h2
    | ex e1 S2=>rw[e]at q;exact fun J' H' h1 g3=>q J' H' h1 (g2.trans g3)
    | bad=>rw[e]at q;exact q
  ·rw[xh gd]at q;exact False.elim q
 ·have e0:w.its.drop i=[]:=List.drop_eq_nil_of_le (by nofun)
  rw[e0]at q
  unfold DS.forL at q
  by_cases gd:DS.gOk S w.gd
  ·rw[xg gd]at q
   exact .inl ⟨ok.stop i H J S ha gr gd (by nofun),q J H σ ha .refl he⟩
  ·rw[xh gd]at q;exact False.elim q⟩⟩
theorem zJk {J:Js}{H:Hp}{env:DS.Env}{σ:St}{own:List Str}{ix:List Nat}(he:RepE K J H env σ):RepE K J H (DS.compEnv own.length ix env) (zC4 own ix σ):=by
 refine⟨by simp[DS.compEnv,zC4],fun i d e=>?_⟩
 unfold DS.compEnv at e
 unfold zC4
 by_cases hi:i<own.length
 ·rw[vf (by simpa using hi),List.getElem?_replicate,xg hi]at e
  cases e
 ·rw[vw (by simpa using hi),vx]at e
  rw[vw (by simpa using hi),vx]
  simp only[List.length_replicate,xF]at e ⊢
  cases ej:ix[i-own.length]? with
  | none=>rw[ej]at e;cases e
  | some j=>
   rw[ej]at e
   simp only[ud,Option.some.injEq]at e ⊢
   cases en:env[j]? with
   | none=>rw[en]at e;cases e
   | some o=>
    rw[en]at e
    obtain⟨v,ev,r⟩:=he.get j d (by rw[en];exact congrArg some e)
    exact⟨v,by rw[ev];rfl,r⟩
theorem zIm {own:List Str}{ix:List Nat}{im:DS.IM}{g:DS.GM}:∀σ H Q,tOfF K E (DS.zAs own.length ix im g mt m) σ H Q->zGx own ix (iOf K E im) (gOf K g) (ttOf K E mt) (tOf K E m) σ H Q:=by
 refine fun σ H Q ⟨env,St,J,ha,hE,q⟩=>⟨env,St,J,ha,hE,q.bind.imp fun w S1 J1 H1 _ a1 g1 q1 I ok=>?_⟩
 refine⟨fun i k ys σ H=>k+i=w.its.length/\∃env S J ds,AbS K J S H/\Grow J1 H1 J H/\RepE K J H env σ/\RepL K J H ds ys/\Post K E J H (DS.zBn w.gd g mt m ys.length (w.its.drop i) env S) (fun vs S2 J2 H2=>∀p o,H2 p=none->ObD K J2 H2 (.lst (ds++vs)) o->Q (.ref p) (upd H2 p o)),
  ⟨w.its.length,rfl,_,S1,J1,[],a1,.refl,zJk (hE.grow g1),rfl,q1.bind.imp fun vs S2 J2 H2 _ a2 g2 q2=>q2 J2 H2 a2 .refl⟩,?_⟩
 rintro i k ys σ H ⟨hk,env,S,J,ds,ha,gr,hE,rl,q⟩
 by_cases hi:i<w.its.length
 ·rw[zIk hi]at q
  unfold DS.zBn at q
  by_cases gd:DS.gOk S w.gd/\ys.length<DS.most
  ·rw[xg gd]at q
   refine .inr ⟨ok.go i H J S ha gr gd.1 hi,gd.2,fun ys σ H=>(k-1)+(i+1)=w.its.length/\∃env S J ds,AbS K J S H/\Grow J1 H1 J H/\RepE K J H env σ/\RepL K J H ds ys/\Post K E J H (DS.zBn w.gd g mt m ys.length (w.its.drop (i+1)) env S) (fun vs S2 J2 H2=>∀p o,H2 p=none->ObD K J2 H2 (.lst (ds++vs)) o->Q (.ref p) (upd H2 p o)),
    fun zs σ' H' wq=>⟨k-1,by nofun,wq⟩,fun x H' y=>?_⟩
   obtain⟨a2,g2,rx⟩:=ok.yld i H J S x H' ha gr gd.1 y _ (xu hi)
   cases eg:g S w.its[i] env with
   | none=>rw[eg]at q;exact False.elim q
   | some env'=>
    rw[eg]at q
    refine⟨env,S,J,w.its[i],env',a2,hE.grow g2,rx,eg,fun σ2 he2=>⟨env',S,J,a2,he2,(Post.grow g2 q).bind.imp fun b S3 J3 H3 _ a3 g3 q3=>?_⟩⟩
    cases b with
    | false=>exact⟨by nofun,env',S3,J3,ds,a3,gr.trans (g2.trans g3),he2.grow g3,RepL.grow (g2.trans g3) _ _ rl,q3⟩
    | true=>
     rw[xg rfl]at q3 ⊢
     refine⟨env',S3,J3,a3,he2.grow g3,q3.bind.imp fun d4 S4 J4 H4 _ a4 g4 q4 v rv=>?_⟩
     have g24:=g2.trans (g3.trans g4)
     refine⟨by nofun,env',S4,J4,ds++[d4],a4,gr.trans g24,he2.grow (g3.trans g4),(RepL.grow g24 _ _ rl).snoc rv,?_⟩
     rw[show(ys++[v]).length=ys.length+1 by simp]
     refine q4.bind.imp fun vs S5 J5 H5 _ a5 g5 q5=>?_
     have:=q5 J5 H5 a5 .refl
     rw[xv]
     exact this
  ·rw[xh gd]at q;exact False.elim q
 ·have e0:w.its.drop i=[]:=List.drop_eq_nil_of_le (by nofun)
  rw[e0]at q
  unfold DS.zBn at q
  by_cases gd:DS.gOk S w.gd
  ·rw[xg gd]at q
   have q2:∀(p:Addr) (o:HO),H p=none->ObD K J H (.lst (ds++[])) o->Q (.ref p) (upd H p o):=q J H ha .refl
   rw[v9]at q2
   exact .inl ⟨ok.stop i H J S ha gr gd (by nofun),fun p n=>q2 p (.lst ys) n ⟨ys,rfl,rl⟩⟩
  ·rw[xh gd]at q;exact False.elim q
theorem of_imp:∀σ H Q,tOf K E m σ H Q->tOfF K E m σ H Q:=fun σ H Q hz0=>by obtain⟨env,S,J,ha,he,q⟩:=hz0;exact ⟨env,S,J,ha,he,q.map fun d S' J' H' _ h1 g k p o n r=>k J' (upd H' p o) (h1.push n) (g.trans (.push n)) (.ref p) (r.rep h1 n)⟩
theorem zR8 {j:Nat}:∀D σ H,tsOf K E (DS.sSet j m) D σ H->tOf K E m σ H (fun x H1=>gName j x σ H1 D.nx):=fun D σ H hz1=>by obtain⟨env,S,J,ha,he,q⟩:=hz1;exact ⟨env,S,J,ha,he,q.then.imp fun d S1 J1 H1 _ a1 g1 q1 v rv=>q1 J1 H1 _ a1 .refl ((he.grow g1).set rv)⟩
theorem zTt {own fre:List Str}{ix:List Nat}{n:Nat}{scope:Scope}{tg elt iter:Expr}{ifs:List Expr}{im:DS.IM}{g:DS.GM}(hc:X.calm=true) (S:CompScope X own fre ix scope) (hi:DI X K E tg iter im)
  (hg:∀cl C s H fp,DG (zA4 X (own++fre) scope cl C s H fp) K tg g) (ht:∀cl C s H fp,DIf (zA4 X (own++fre) scope cl C s H fp) K E ifs mt) (he:∀cl C s H fp,DE (zA4 X (own++fre) scope cl C s H fp) K E elt m)
  (hn:own.length=n:=by rfl) (h:nse iter=true:=by rfl):DF X K E (.ListComp elt [⟨tg,iter,ifs,0⟩] scope pos) (DS.zAs n ix im g mt m):=by
 subst hn
 exact⟨(qlcomp' hc S hi.h (fun _ _ _ _ _=>(hg _ _ _ _ _).h) (fun _ _ _ _ _=>(ht _ _ _ _ _).h) (fun _ _ _ _ _=>(he _ _ _ _ _).h) h).imp zIm⟩
theorem zPd {own fre:List Str}{ix:List Nat}{n:Nat}{scope:Scope}{j:Nat}{x:Str}{cpos pos':Pos}{tg elt iter:Expr}{ifs:List Expr}{im:DS.IM}{g:DS.GM}(hN:X.N.Nodup) (hix:X.N[j]?=some x) (hx:Loc X.env.scope x)
  (hc:X.calm=true) (S:CompScope X own fre ix scope) (hi:DI X K E tg iter im)
  (hg:∀cl C s H fp,DG (zA4 X (own++fre) scope cl C s H fp) K tg g) (ht:∀cl C s H fp,DIf (zA4 X (own++fre) scope cl C s H fp) K E ifs mt) (he:∀cl C s H fp,DE (zA4 X (own++fre) scope cl C s H fp) K E elt m)
  (hsw:swapsWith (.ListComp elt [⟨tg,iter,ifs,0⟩] scope cpos) (some (.Name x pos')) pos.line X.env=pure true:=by rfl) (h:nse iter=true:=by rfl) (hf:X.fn x=true\/X.env.scope.names.lookup x=some .local:=by first|exact .inl rfl|exact .inr rfl|assumption) (hn:own.length=n:=by rfl):
  DS1 X K E (.Assign [.Name x pos'] (.ListComp elt [⟨tg,iter,ifs,0⟩] scope cpos) pos) (DS.sSet j (DS.zAs n ix im g mt m)):=by
 subst hn
 exact⟨(qsetc' hN hix hx hc S hi.h (fun _ _ _ _ _=>(hg _ _ _ _ _).h) (fun _ _ _ _ _=>(ht _ _ _ _ _).h) (fun _ _ _ _ _=>(he _ _ _ _ _).h) hsw h hf).imp fun D σ H h=>zIm σ H _ (of_imp σ H _ (zR8 D σ H h))⟩
end
section
variable {P:Program}{w:World}{K:PySem.W.Frag}{mg:Str->Option Value}{base:Heap}
theorem zGf {E:XE}{J:Js}{H:Hp}{np nl:Nat}{b:DS.SM}{ds:List D}{S:Store}{P:D->Store->Js->Hp->Prop}(h:Post K E J H (DS.zAv np nl b ds S) P):ds.length=np:=by
 unfold DS.zAv at h
 by_cases e:ds.length=np
 ·exact e
 ·rw[xh e]at h;exact False.elim h
theorem zHw {J:Js}{H:Hp}{ds:List D}{vs:List V}{N:List Str}(r:RepL K J H ds vs):RepE K J H (ds.map some++List.replicate (N.length-ds.length) none) (start N vs):=by
 refine⟨by simp[start,r.length],fun i d e=>?_⟩
 unfold start
 by_cases hi:i<ds.length
 ·rw[vf (by simpa using hi),vx]at e
  rw[vf (by simpa[<- r.length]using hi),vx]
  cases ed:ds[i]? with
  | none=>rw[ed]at e;cases e
  | some d'=>
   rw[ed]at e;cases e
   obtain⟨x,ex,rx⟩:=r.get ed
   exact⟨x,by rw[ex];rfl,rx⟩
 ·rw[vw (by simpa using hi),List.getElem?_replicate]at e
  split at e <;> cases e
theorem zU1 {J:Js}{H:Hp}{np:Nat}{N:List Str}{b:DS.SM}{ds:List D}{vs:List V}{S:Store}{Q:VK}(ha:AbS K J S H) (r:RepL K J H ds vs)
  (h:Post K XE0 J H (DS.zAv np N.length b ds S) (fun d _ J' H'=>∀v,Rep K J' H' d v->Q v H')):tsOf K XE0 b { nx:=fun _ H'=>Q .non H',rt:=Q } (start N vs) H:=by
 have hl:=zGf h
 unfold DS.zAv at h
 rw[xg hl,<- hl]at h
 refine⟨_,S,J,ha,zHw r,?_⟩
 have fin:∀d S' J' H' v,AbS K J' S' H'->Grow J H J' H'->Rep K J' H' d v->Post K XE0 J H (DS.fin S d S') (fun d _ J' H'=>∀v,Rep K J' H' d v->Q v H')->Q v H':=fun d S' J' H' v a1 g1 r1 q=>by
  cases e:DS.fin S d S' with
  | ok d2 S2=>
   obtain⟨J2,a2,g2,r2⟩:=zWq ha g1 a1 r1 e
   rw[e]at q
   exact q J2 H' a2 g2 v r2
  | ex x S2=>rw[e]at q;exact False.elim (q J' H' (by
    exfalso
    unfold DS.fin at e
    split at e <;> try cases e
    split at e <;> try cases e
    split at e <;> try cases e
    split at e <;> try cases e
    split at e <;> cases e) g1)
  | bad=>rw[e]at q;exact False.elim q
 cases e:b (ds.map some++List.replicate (N.length-ds.length) none) S with
 | nx e1 S1=>rw[e]at h;exact fun J' H' σ h1 g1 _=>fin .non S1 J' H' .non h1 g1 rfl h
 | rt d S1=>rw[e]at h;exact fun J' H' v h1 g1 r1=>fin d S1 J' H' v h1 g1 r1 h
 | bk e1 S1=>rw[e]at h;exact False.elim h
 | ct e1 S1=>rw[e]at h;exact False.elim h
 | ex x S1=>rw[e]at h;exact h
 | bad=>rw[e]at h;exact False.elim h
theorem fn_d {k:Nat}{x qual:Str}{st:Stmt}{f:Addr}{fd:FuncData}{N ps:List Str}{np nl:Nat}{b:DS.SM}(F:Fun K x qual st f fd) (Sc:zCu N ps (zA5 st)) (hnp:ps.length=np) (hnl:N.length=nl)
  (hb:∀(cdv:Value) (A:Around) (outer:List PySem.Env) (s:Shared) (H:Hp) (E:XK),Room k (A.deeper (envOfC qual (zA5 st) s.heap.objs.size f cdv))->DSs (cxOf CX0 P w K mg base N qual (zA5 st) f cdv A outer s H E).nox K XE0 (zAr st) b):
  FnOk P w K mg base CX0 (k+1) f fd ps (spOf K XE0 (DS.zAv np nl b)):=by
 subst hnp hnl
 refine F.ok Sc (fun vs H Q E h=>?_) (fun cdv A outer s H vs Q E hr h=>?_)
 ·obtain⟨J,S,ds,ha,r,q⟩:=h
  rw[<- r.length];exact zGf q
 ·obtain⟨J,S,ds,ha,r,q⟩:=h
  exact⟨_,(hb cdv A outer s H E hr).h.h,zU1 ha r q⟩
theorem zPo {J:Js}{H:Hp}{np:Nat}{N:List Str}{b:DS.SM}{ds:List D}{vs:List V}{S:Store}{Q:VK}(hl:ds.length=np) (ha:AbS K J S H) (r:RepL K J H ds vs)
  (h:Post K XE0 J H (DS.zDz np N.length b ds S) (fun d _ J' H'=>∀v,Rep K J' H' d v->Q v H')):tsOf K XE0 b { nx:=fun _ H'=>Q .non H',rt:=Q } (start N vs) H:=by
 unfold DS.zDz at h
 rw[xg hl,<- hl]at h
 refine⟨_,S,J,ha,zHw r,?_⟩
 cases e:b (ds.map some++List.replicate (N.length-ds.length) none) S with
 | nx e1 S1=>rw[e]at h;exact fun J' H' σ h1 g1 _=>h J' H' h1 g1 .non rfl
 | rt d S1=>rw[e]at h;exact fun J' H' v h1 g1 r1=>h J' H' h1 g1 v r1
 | bk e1 S1=>rw[e]at h;exact False.elim h
 | ct e1 S1=>rw[e]at h;exact False.elim h
 | ex x S1=>rw[e]at h;exact h
 | bad=>rw[e]at h;exact False.elim h
theorem fn_r {k:Nat}{x qual:Str}{st:Stmt}{f:Addr}{fd:FuncData}{N ps:List Str}{np nl:Nat}{b:DS.SM}(F:Fun K x qual st f fd) (Sc:zCu N ps (zA5 st)) (hnp:ps.length=np) (hnl:N.length=nl)
  (hb:∀(cdv:Value) (A:Around) (outer:List PySem.Env) (s:Shared) (H:Hp) (E:XK),Room k (A.deeper (envOfC qual (zA5 st) s.heap.objs.size f cdv))->DSs (cxOf CX0 P w K mg base N qual (zA5 st) f cdv A outer s H E).nox K XE0 (zAr st) b):
  FnOk P w K mg base CX0 (k+1) f fd ps (spOf K XE0 (DS.zDz np nl b)):=by
 subst hnp hnl
 have cl:∀{J:Js}{H:Hp}{ds:List D}{S:Store}{P:D->Store->Js->Hp->Prop},Post K XE0 J H (DS.zDz ps.length N.length b ds S) P->ds.length=ps.length:=fun {J H ds S P} h=>by
  unfold DS.zDz at h
  by_cases e:ds.length=ps.length
  ·exact e
  ·rw[xh e]at h;exact False.elim h
 refine F.ok Sc (fun vs H Q E h=>?_) (fun cdv A outer s H vs Q E hr h=>?_)
 ·obtain⟨J,S,ds,ha,r,q⟩:=h
  rw[<- r.length];exact cl q
 ·obtain⟨J,S,ds,ha,r,q⟩:=h
  exact⟨_,(hb cdv A outer s H E hr).h.h,zPo (cl q) ha r q⟩
end
end L2
namespace DS
open PySem (Str)
noncomputable section
open Classical
noncomputable def big:Nat:=2 ^ 5000
noncomputable def sm (x:Int):Prop:=x.natAbs<big
theorem zR4 {x:Int}(h1:-(2 ^ 200)<x) (h2:x<2 ^ 200):sm x:=by
 have h:(2:Nat) ^ 200<=big:=Nat.pow_le_pow_right (by decide) (by decide)
 have e:((2 ^ 200:Nat):Int)=2 ^ 200:=by norm_cast
 unfold sm
 lia
noncomputable def addD (S:Store) (x y:D):Option D:=match x,y with
 | .int a,.int b=>some (.int (a+b))
 | .str a,.str b=>if a.length+b.length<=most then some (.str (a++b))else none
 | .tup l,.tup m=>if l≠[]/\l.length+m.length<=most then some (.tup (l++m))else none
 | x,y=>match litems S x,litems S y with
  | some l,some m=>if l.length+m.length<=most then some (.lst (l++m))else none
  | _,_=>none
noncomputable def catD (S:Store) (x y:D):Option D:=match litems S x,litems S y with
 | some l,some m=>if l.length+m.length<=most then some (.lst (l++m))else none
 | _,_=>none
noncomputable def subD (_:Store) (x y:D):Option D:=match x,y with
 | .int a,.int b=>some (.int (a-b))
 | _,_=>none
noncomputable def mulD (S:Store) (x y:D):Option D:=match x,y with
 | .int a,.int b=>if sm a/\sm b then some (.int (a*b))else none
 | _,_=>none
noncomputable def zM8 (_:Store) (x y:D):Option D:=match x,y with
 | .int a,.int b=>if b≠0/\sm b then some (.int (a.fdiv b))else none
 | _,_=>none
noncomputable def modD (_:Store) (x y:D):Option D:=match x,y with
 | .int a,.int b=>if 0<b then some (.int (a % b))else none
 | _,_=>none
noncomputable def powD (_:Store) (x y:D):Option D:=match x,y with
 | .int a,.int b=>if 0<=b/\b<=1000000/\a.natAbs<2 ^ 64 then some (.int (a ^ b.toNat))else none
 | _,_=>none
noncomputable def negD (_:Store) (x:D):Option D:=match x with
 | .int a=>some (.int (-a))
 | _=>none
noncomputable def okL (l m:List D):Prop:=zC5 l=true/\zC5 m=true/\cmpL l m=true/\depL l<=60
noncomputable def eqO (S:Store) (x y:D):Option Bool:=match look S x,look S y with
 | some (.int a),some (.int b)=>some (decide (a=b))
 | some (.bl a),some (.bl b)=>some (decide (a=b))
 | some (.str a),some (.str b)=>some (decide (a=b))
 | some (.tup l),some (.tup m)=>if okL l m then some (decide (l=m))else none
 | some (.lst l),some (.lst m)=>if okL l m then some (decide (l=m))else none
 | _,_=>none
noncomputable def eqD (S:Store) (x y:D):Option D:=(eqO S x y).map D.bl
noncomputable def neD (S:Store) (x y:D):Option D:=(eqO S x y).map fun b=>.bl (!b)
noncomputable def gtD (_:Store) (x y:D):Option D:=match x,y with
 | .int a,.int b=>some (.bl (decide (b<a)))
 | _,_=>none
noncomputable def geD (_:Store) (x y:D):Option D:=match x,y with
 | .int a,.int b=>some (.bl (decide (b<=a)))
 | _,_=>none
noncomputable def ixN (n:Nat) (i:Int):Option Nat:=if 0<=i then(if i<n then some i.toNat else none)else if -(n:Int)<=i then some (i+n).toNat else none
noncomputable def atL {α:Type}(xs:List α) (i:Int):Option α:=(ixN xs.length i).bind fun j=>xs[j]?
noncomputable def look2 (ks vs:List D) (k:D):Option D:=match ks,vs with
 | a::r,v::t=>if a=k then some v else look2 r t k
 | _,_=>none
noncomputable def isKey:D->Bool
 | .int _=>true
 | .str _=>true
 | .tup l=>l.all fun d=>match d with
  | .int _=>true
  | .str _=>true
  | _=>false
 | _=>false
noncomputable def zCf (t:Bool) (k:D):Bool:=isKey k && (match k with
 | .tup _=>t
 | _=>!t)
noncomputable def ixD (S:Store) (x y:D):Option D:=match look S x,y with
 | some (.tup l),.int i=>atL l i
 | some (.lst l),.int i=>atL l i
 | some (.str z),.int i=>if z.length<=most then(atL z.cps.toList i).map fun c=>.str ⟨#[c]⟩else none
 | some (.dct t ks vs),k=>if zCf t k=true then look2 ks vs k else none
 | _,_=>none
noncomputable def sIx (n d:Nat):Option Int->Nat
 | none=>d
 | some v=>if v<0 then(v+(n:Int)).toNat else min v.toNat n
noncomputable def cutL {α:Type}(xs:List α) (lo hi:Option Int):List α:=(xs.drop (sIx xs.length 0 lo)).take (sIx xs.length xs.length hi-sIx xs.length 0 lo)
noncomputable def slD (S:Store) (x:D) (lo hi:Option Int):Option D:=match x with
 | .tup l=>some (.tup (cutL l lo hi))
 | .ktup l=>if sIx l.length 0 lo=0/\sIx l.length l.length hi=l.length then some (.ktup l)else some (.tup (cutL l lo hi))
 | x=>match look S x with
  | some (.lst l)=>some (.lst (cutL l lo hi))
  | _=>none
noncomputable def revL (S:Store) (x:D):Option D:=match look S x with
 | some (.lst l)=>some (.lst l.reverse)
 | _=>none
noncomputable def repl2:List D->List D->D->D->List D
 | a::r,w::t,k,v=>(if a=k then v else w)::repl2 r t k v
 | _,_,_,_=>[]
noncomputable def put2 (ks vs:List D) (k v:D):List D × List D:=if k∈ks then(ks,repl2 ks vs k v)else(ks++[k],vs++[v])
noncomputable def lenB (S:Store):List D->Option D
 | [d]=>match look S d with
  | some (.tup l)=>some (.int l.length)
  | some (.lst l)=>some (.int l.length)
  | some (.dct _ ks _)=>some (.int ks.length)
  | some (.str x)=>if x.length<=most then some (.int x.length)else none
  | _=>none
 | _=>none
noncomputable def zD0 (S:Store):List D->Option D
 | [d]=>(items S d).map D.lst
 | _=>none
noncomputable def zC2 (S:Store):List D->Option D
 | [d]=>match d with
  | .tup l=>some (.tup l)
  | .ktup l=>some (.ktup l)
  | d=>(litems S d).map D.tup
 | _=>none
noncomputable def bools:List D->Option (List Bool)
 | []=>some []
 | .bl b::r=>(bools r).map (b::·)
 | _=>none
noncomputable def allB (S:Store):List D->Option D
 | [d]=>((litems S d).bind bools).map fun bs=>.bl (bs.all id)
 | _=>none
noncomputable def max2B (_:Store):List D->Option D
 | [.int i,.int j]=>some (.int (if j > i then j else i))
 | _=>none
noncomputable def zC7 (S:Store) (o:D) (xs:List D):Option (D × Store):=match o,xs with
 | .ref n,[v]=>match S[n]? with
  | some (.lst l)=>if l.length<most then some (.non,S.set n (.lst (l++[v])))else none
  | _=>none
 | _,_=>none
noncomputable def popM (S:Store) (o:D) (xs:List D):Option (D × Store):=match o,xs with
 | .ref n,[]=>match S[n]? with
  | some (.lst l)=>(l[l.length-1]?).map fun v=>(v,S.set n (.lst l.dropLast))
  | _=>none
 | _,_=>none
end
end DS
namespace L2
open PySem PySem.Spec PyProof.Rows
open DS (D Store Exn Rs SR)
section
variable {X:Cx}{K:PySem.W.Frag}{E:XE}{J:Js}{S:Store}{H:Hp}{d d1 d2:D}{v:V}
theorem Inv.lstR {pins:List (Addr × Obj)}{σ:St}{s:Shared}{l:Addr}{xs:List V}(I:Inv X pins σ H s) (hH:Rd H l (.lst xs)):xs.length<=sizeLine/\∃(its:List Value) (n:Nat),Vals xs its/\xs.length=its.length/\s.heap.get? l=some { cls:=.type "list",data:=.seq its.toArray n }:=by
 obtain⟨z,its,n,r,e⟩:=hH.ok I.hok
 exact⟨z,its,n,r,r.length,e⟩
theorem zCd {l:List D}(ha:AbS K J S H) (r:Rep K J H d v) (e:DS.litems S d=some l):∃a xs,v=.ref a/\Rd H a (.lst xs)/\RepL K J H l xs:=by
 cases d with
 | lst ds=>cases e;obtain⟨a,xs,rfl,t,rl⟩:=r;exact⟨a,xs,rfl,.inl t.1,rl⟩
 | ref n=>
  obtain⟨a,ea,rfl⟩:=r
  obtain⟨c,ec,o,eo,rc⟩:=ha.at ea
  unfold DS.litems DS.look at e
  simp only[ec]at e
  cases c with
  | lst ds=>cases e;obtain⟨xs,rfl,rl⟩:=rc;exact⟨a,xs,rfl,.inl eo,rl⟩
  | dct _ ks vs=>cases e
  | _=>exact False.elim rc
 | _=>cases e
theorem zCg {l:List D}(ha:AbS K J S H) (r:Rep K J H d v) (e:DS.items S d=some l):∃a xs,v=.ref a/\(SqL K H a xs\/SqT K H a xs)/\RepL K J H l xs:=by
 cases d with
 | tup ds=>cases e;obtain⟨a,xs,rfl,t,rl⟩:=r;exact⟨a,xs,rfl,.inr t.sq,rl⟩
 | ktup ds=>cases e;obtain⟨a,xs,rfl,t,rl⟩:=r;exact⟨a,xs,rfl,.inr t.sq,rl⟩
 | klst ds=>cases e;obtain⟨a,xs,rfl,t,rl⟩:=r;exact⟨a,xs,rfl,.inl t.sq,rl⟩
 | lst ds=>cases e;obtain⟨a,xs,rfl,t,rl⟩:=r;exact⟨a,xs,rfl,.inl t.sq,rl⟩
 | ref n=>
  obtain⟨a,ea,rfl⟩:=r
  obtain⟨c,ec,o,eo,rc⟩:=ha.at ea
  unfold DS.items DS.look at e
  simp only[ec]at e
  cases c with
  | lst ds=>cases e;obtain⟨xs,rfl,rl⟩:=rc;exact⟨a,xs,rfl,.inl (.inl (.inl eo)),rl⟩
  | dct _ ks vs=>cases e
  | _=>exact False.elim rc
 | _=>cases e
theorem zS7:OpR X (binaryOp .Sub) (r2Of K DS.subD):=by
 intro pins s σ H x y v u Q I rx ry hq7
 obtain⟨J,S,d1,d2,d,ha,r1,r2,e,k⟩:=hq7
 unfold DS.subD at e
 split at e
 ·cases e;obtain rfl:=r1;obtain rfl:=r2
  exact zVq pins s σ H _ _ v u Q I rx ry ⟨_,_,rfl,rfl,k _ H ha .refl rfl⟩
 ·cases e
theorem zSc:OpR X (binaryOp .Mult) (r2Of K DS.mulD):=by
 intro pins s σ H x y v u Q I rx ry hq8
 obtain⟨J,S,d1,d2,d,ha,r1,r2,e,k⟩:=hq8
 unfold DS.mulD at e
 split at e
 ·split at e
  ·rename_i h
   cases e;obtain rfl:=r1;obtain rfl:=r2
   exact zSb pins s σ H _ _ v u Q I rx ry ⟨_,_,rfl,rfl,h,k _ H ha .refl rfl⟩
  ·cases e
 ·cases e
theorem zOr:OpR X (binaryOp .FloorDiv) (r2Of K DS.zM8):=by
 intro pins s σ H x y v u Q I rx ry hq9
 obtain⟨J,S,d1,d2,d,ha,r1,r2,e,k⟩:=hq9
 unfold DS.zM8 at e
 split at e
 ·split at e
  ·rename_i h
   cases e;obtain rfl:=r1;obtain rfl:=r2
   exact zOq pins s σ H _ _ v u Q I rx ry ⟨_,_,rfl,rfl,h,k _ H ha .refl rfl⟩
  ·cases e
 ·cases e
theorem zSd:OpR X (binaryOp .Mod) (r2Of K DS.modD):=by
 intro pins s σ H x y v u Q I rx ry hq10
 obtain⟨J,S,d1,d2,d,ha,r1,r2,e,k⟩:=hq10
 unfold DS.modD at e
 split at e
 ·split at e
  ·rename_i h
   cases e;obtain rfl:=r1;obtain rfl:=r2
   exact zVs pins s σ H _ _ v u Q I rx ry ⟨_,_,rfl,rfl,h,k _ H ha .refl rfl⟩
  ·cases e
 ·cases e
theorem zS8:OpR X (binaryOp .Pow) (r2Of K DS.powD):=by
 intro pins s σ H x y v u Q I rx ry hq11
 obtain⟨J,S,d1,d2,d,ha,r1,r2,e,k⟩:=hq11
 unfold DS.powD at e
 split at e
 ·split at e
  ·rename_i h
   cases e;obtain rfl:=r1;obtain rfl:=r2
   exact zVr pins s σ H _ _ v u Q I rx ry ⟨_,_,rfl,rfl,h,k _ H ha .refl rfl⟩
  ·cases e
 ·cases e
theorem zK1:UnR X (unaryOp .USub) (r1Of K DS.negD):=by
 intro pins s σ H x v Q I rx hq12
 obtain⟨J,S,d1,d,ha,r1,e,k⟩:=hq12
 unfold DS.negD at e
 split at e
 ·cases e;obtain rfl:=r1
  exact zUd pins s σ H _ v Q I rx ⟨_,rfl,k _ H ha .refl rfl⟩
 ·cases e
theorem zN3 {pins:List (Addr × Obj)}{σ:St}{s:Shared}{a b:Addr}{xs ys:List V}{Q:VK}(I:Inv X pins σ H s) (h1:Rd H a (.lst xs)) (h2:Rd H b (.lst ys)) (hz:xs.length+ys.length<=sizeLine) (q:∀p,H p=none->Q (.ref p) (upd H p (.lst (xs++ys)))):
  wpAny (model X.prog X.w) X.A (binaryOp .Add (.ref a) (.ref b)) (EP X pins σ Q) X.xe s:=by
 obtain⟨z,its,n,r,hl,e⟩:=I.lstR h1
 obtain⟨z2,its2,n2,r2,hl2,e2⟩:=I.lstR h2
 refine PySem.P.add_list e e2 ?_ (by rw[xq,xq,<- hl,<- hl2];exact hz)
 rw[show its.toArray++its2.toArray=(its++its2).toArray by simp]
 exact⟨.ref _,_,I.lnew (r.append r2) (by rw[xG];exact hz),rfl,q _ I.fresh⟩
theorem zOs:OpR X (binaryOp .Add) (zYa K DS.catD):=by
 intro pins s σ H x y v u Q I rx ry hq13
 obtain⟨J,S,d1,d2,d,ha,r1,r2,e,k⟩:=hq13
 unfold DS.catD at e
 split at e
 ·rename_i l m e1 e2
  split at e
  ·rename_i h
   cases e
   obtain⟨a,xs,rfl,h1,q1⟩:=zCd ha r1 e1
   obtain⟨b,ys,rfl,h2,q2⟩:=zCd ha r2 e2
   cases rx
   cases ry
   exact zN3 I h1 h2 (by rw[<- q1.length,<- q2.length];exact h) fun p n=>k p _ H ha .refl n ⟨_,rfl,q1.append q2⟩
  ·cases e
 ·cases e
theorem zSh (hK:X.K=K:=by rfl):OpR X (binaryOp .Add) (r2Of K DS.addD):=by
 subst hK
 intro pins s σ H x y v u Q I rx ry hq14
 obtain⟨J,S,d1,d2,d,ha,r1,r2,e,k⟩:=hq14
 unfold DS.addD at e
 split at e
 ·cases e;obtain rfl:=r1;obtain rfl:=r2
  exact zVw pins s σ H _ _ v u Q I rx ry ⟨_,_,rfl,rfl,k _ H ha .refl rfl⟩
 ·split at e
  ·rename_i h
   cases e;obtain rfl:=r1;obtain rfl:=r2
   exact zJ3 pins s σ H _ _ v u Q I rx ry ⟨_,_,rfl,rfl,h,k _ H ha .refl rfl⟩
  ·cases e
 ·split at e
  ·rename_i l m h
   cases e
   obtain⟨a,xs,rfl,t1,q1⟩:=r1
   obtain⟨b,ys,rfl,t2,q2⟩:=r2
   have e1:=q1.length
   have e2:=q2.length
   refine zSg pins s σ H _ _ v u Q I rx ry ⟨a,b,xs,ys,rfl,rfl,t1.sq,t2.sq,fun z=>h.1 (by subst z;exact yn e1),by rw[<- e1,<- e2];exact h.2,fun z=>?_,fun z p n=>?_⟩
   ·subst z
    obtain rfl:m=[]:=yn e2
    rw[v9]at k
    exact k _ H ha .refl ⟨a,xs,rfl,t1,q1⟩
   ·exact k _ _ (ha.push n) (.push n) ⟨p,_,rfl,⟨zAd,ha.out n⟩,RepL.grow (.push n) _ _ (q1.append q2)⟩
  ·cases e
 ·exact zOs pins s σ H _ _ v u Q I rx ry ⟨J,S,d1,d2,d,ha,r1,r2,e,fun p o H' a1 g1 n r=>k _ _ (a1.push n) (g1.trans (.push n)) (r.rep a1 n)⟩
mutual
noncomputable def toDv:D->Dv
 | .non=>.non
 | .bl b=>.bl b
 | .int i=>.int i
 | .str x=>.str x
 | .tup l=>.tup (zC0 l)
 | .lst l=>.lst (zC0 l)
 | .dct _ _ _=>.non
 | .ktup _=>.non
 | .klst _=>.non
 | .st _=>.non
 | .ty _=>.non
 | .ref _=>.non
noncomputable def zC0:List D->List Dv
 | []=>[]
 | d::r=>toDv d::zC0 r
end
mutual
theorem zHu:∀(d:D) (v:V),d.flat=true->Rep K J H d v->Den K H (toDv d) v
 | .non,_,_,r=>r
 | .bl _,_,_,r=>r
 | .int _,_,_,r=>r
 | .str _,_,_,r=>r
 | .tup l,v,f,⟨a,xs,e,t,rl⟩=>⟨a,xs,e,t.sq,zBb l xs f rl⟩
 | .lst l,v,f,⟨a,xs,e,t,rl⟩=>⟨a,xs,e,t.sq,zBb l xs f rl⟩
 | .dct _ _ _,_,f,_=>by cases f
 | .ktup _,_,f,_=>by cases f
 | .klst _,_,f,_=>by cases f
 | .st _,_,f,_=>by cases f
 | .ty _,_,f,_=>by cases f
 | .ref _,_,f,_=>by cases f
theorem zBb:∀(l:List D) (xs:List V),DS.zC5 l=true->RepL K J H l xs->DenL K H (zC0 l) xs
 | [],_,_,r=>r
 | d::l,xs,f,⟨x,r,e,h,t⟩=>by
  have f:(d.flat && DS.zC5 l)=true:=f
  rw[xt]at f
  exact⟨x,r,e,zHu d x f.1 h,zBb l r f.2 t⟩
end
mutual
theorem zNj:∀(d e:D),d.flat=true->e.flat=true->toDv d=toDv e->d=e
 | .non,e,_,f,h=>by cases e <;> first|rfl|(exact Bool.noConfusion (show false=true from f))|(cases h;done)
 | .bl _,e,_,f,h=>by cases e <;> first|(cases h;rfl)|exact nomatch h|exact nomatch f
 | .int _,e,_,f,h=>by cases e <;> first|(cases h;rfl)|exact nomatch h|exact nomatch f
 | .str _,e,_,f,h=>by cases e <;> first|(cases h;rfl)|exact nomatch h|exact nomatch f
 | .tup l,e,f,f',h=>by
  cases e with
  | tup m=>exact congrArg D.tup (zC9 l m f f' (Dv.tup.inj h))
  | _=>first|exact nomatch h|exact nomatch f'
 | .lst l,e,f,f',h=>by
  cases e with
  | lst m=>exact congrArg D.lst (zC9 l m f f' (Dv.lst.inj h))
  | _=>first|exact nomatch h|exact nomatch f'
 | .dct _ _ _,_,f,_,_=>by cases f
 | .ktup _,_,f,_,_=>by cases f
 | .klst _,_,f,_,_=>by cases f
 | .st _,_,f,_,_=>by cases f
 | .ty _,_,f,_,_=>by cases f
 | .ref _,_,f,_,_=>by cases f
theorem zC9:∀(l m:List D),DS.zC5 l=true->DS.zC5 m=true->zC0 l=zC0 m->l=m
 | [],[],_,_,_=>rfl
 | [],_::_,_,_,h=>by cases h
 | _::_,[],_,_,h=>by cases h
 | d::l,e::m,f,f',h=>by
  have f:(d.flat && DS.zC5 l)=true:=f
  have f':(e.flat && DS.zC5 m)=true:=f'
  rw[xt]at f f'
  have h:=uL (h)
  rw[zNj d e f.1 f'.1 h.1,zC9 l m f.2 f'.2 h.2]
end
mutual
theorem zNl:∀(d e:D),d.cmp e=true->(toDv d).cmp (toDv e)=true
 | .non,e,h=>by cases e <;> first|rfl|cases h
 | .bl _,e,h=>by cases e <;> first|rfl|cases h
 | .int _,e,h=>by cases e <;> first|rfl|cases h
 | .str _,e,h=>by cases e <;> first|rfl|cases h
 | .tup l,e,h=>by
  cases e with
  | tup m=>exact zB1 l m h
  | _=>cases h
 | .lst l,e,h=>by
  cases e with
  | lst m=>exact zB1 l m h
  | _=>cases h
 | .dct _ _ _,e,h=>by cases e <;> cases h
 | .ktup _,e,h=>by cases e <;> cases h
 | .klst _,e,h=>by cases e <;> cases h
 | .st _,e,h=>by cases e <;> cases h
 | .ty _,e,h=>by cases e <;> cases h
 | .ref _,e,h=>by cases e <;> cases h
theorem zB1:∀(l m:List D),DS.cmpL l m=true->L2.cmpL (zC0 l) (zC0 m)=true
 | [],[],_=>rfl
 | [],_::_,_=>rfl
 | _::_,[],_=>rfl
 | d::l,e::m,h=>by
  have h:(d.cmp e && DS.cmpL l m)=true:=h
  rw[xt]at h
  show((toDv d).cmp (toDv e) && L2.cmpL (zC0 l) (zC0 m))=true
  rw[zNl d e h.1,zB1 l m h.2];rfl
end
mutual
theorem zNk:∀(d:D),(toDv d).dep<=d.dep
 | .tup l=>Nat.succ_le_succ (zBo l)
 | .lst l=>Nat.succ_le_succ (zBo l)
 | .non=>xi _
 | .bl _=>xi _
 | .int _=>xi _
 | .str _=>xi _
 | .dct _ _ _=>xi _
 | .ktup _=>xi _
 | .klst _=>xi _
 | .st _=>xi _
 | .ty _=>xi _
 | .ref _=>xi _
theorem zBo:∀(l:List D),L2.depL (zC0 l)<=DS.depL l
 | []=>xi _
 | d::l=>by
  show max (toDv d).dep (L2.depL (zC0 l))<=max d.dep (DS.depL l)
  have:=zNk d
  have:=zBo l
  lia
end
open Classical in
theorem zD9 {l m:List D}(f:DS.zC5 l=true) (f':DS.zC5 m=true):eqvL (zC0 l) (zC0 m)=decide (l=m):=by
 by_cases e:l=m
 ·subst e
  rw[xB rfl]
  exact(zBf _ _).mpr rfl
 ·rw[xy e]
  cases q:eqvL (zC0 l) (zC0 m)with
  | false=>rfl
  | true=>exact absurd (zC9 l m f f' ((zBf _ _).mp q)) e
theorem zD4 {c:D}(ha:AbS K J S H) (r:Rep K J H d v) (e:DS.look S d=some c) (f:c.flat=true):Den K H (toDv c) v:=by
 cases d with
 | ref n=>
  obtain⟨a,ea,rfl⟩:=r
  obtain⟨c',ec,o,eo,rc⟩:=ha.at ea
  have e:S[n]?=some c:=e
  rw[ec]at e;cases e
  cases c with
  | lst ds=>obtain⟨xs,rfl,rl⟩:=rc;exact⟨a,xs,rfl,.inl (.inl eo),zBb _ _ f rl⟩
  | dct _ ks vs=>cases f
  | _=>exact False.elim rc
 | ktup l=>cases e;obtain⟨a,xs,rfl,t,rl⟩:=r;exact⟨a,xs,rfl,t.sq,zBb _ _ f rl⟩
 | klst l=>cases e;obtain⟨a,xs,rfl,t,rl⟩:=r;exact⟨a,xs,rfl,t.sq,zBb _ _ f rl⟩
 | _=>cases e;exact zHu _ _ f r
open Classical in
theorem zQj {pins:List (Addr × Obj)}{σ:St}{s:Shared}{x y:V}{u w:Value}{Q:VK}{b:Bool}(neg:Bool) (hu:X.A.units+64<cLine) (I:Inv X pins σ H s) (rx:RelV x u) (ry:RelV y w) (ha:AbS X.K J S H) (r1:Rep X.K J H d1 x) (r2:Rep X.K J H d2 y) (e:DS.eqO S d1 d2=some b)
  (k:Q (.bl (if neg then !b else b)) H):wpAny (model X.prog X.w) X.A (compareOp (if neg then .NotEq else .Eq) u w) (EP X pins σ Q) X.xe s:=by
 unfold DS.eqO at e
 have sc:∀(c1 c2:D) (v1 v2:V),DS.look S d1=some c1->DS.look S d2=some c2->(∀z,c1≠.lst z)->(∀z z' z2,c1≠.dct z z' z2)->(∀z,c1≠.tup z)->(∀z,c2≠.lst z)->(∀z z' z2,c2≠.dct z z' z2)->(∀z,c2≠.tup z)->Rep X.K J H c1 x/\Rep X.K J H c2 y:=fun c1 c2 _ _ e1 e2 n1 n2 n1' n3 n4 n3'=>by
  have key:∀(d c:D) (v:V),Rep X.K J H d v->DS.look S d=some c->(∀z,c≠.lst z)->(∀z z' z2,c≠.dct z z' z2)->(∀z,c≠.tup z)->Rep X.K J H c v:=fun d c v r e n n' n2=>by
   cases d with
   | ref n0=>
    obtain⟨a,ea,rfl⟩:=r
    obtain⟨c',ec,o,eo,rc⟩:=ha.at ea
    have e:S[n0]?=some c:=e
    rw[ec]at e;cases e
    cases c with
    | lst ds=>exact absurd rfl (n ds)
    | dct t ks vs=>exact absurd rfl (n' t ks vs)
    | _=>exact False.elim rc
   | ktup l=>cases e;exact absurd rfl (n2 l)
   | klst l=>cases e;exact absurd rfl (n l)
   | _=>cases e;exact r
  exact⟨key _ _ _ r1 e1 n1 n2 n1',key _ _ _ r2 e2 n3 n4 n3'⟩
 split at e
 ·rename_i a b e1 e2
  obtain⟨q1,q2⟩:=sc _ _ x y e1 e2 (fun _ z=>nomatch z) (fun _ _ _ z=>nomatch z) (fun _ z=>nomatch z) (fun _ z=>nomatch z) (fun _ _ _ z=>nomatch z) (fun _ z=>nomatch z)
  obtain rfl:=q1;obtain rfl:=q2
  cases e
  have ed:decide (V.int a=V.int b)=decide (a=b):=by
   by_cases z:a=b
   ·subst z;simp
   ·rw[xy z,xy fun q=>z (V.int.inj q)]
  cases neg with
  | true=>exact zSa pins s σ H _ _ u w Q I rx ry ⟨rfl,by rw[ed];exact k⟩
  | false=>exact zSf pins s σ H _ _ u w Q I rx ry ⟨rfl,by rw[ed];exact k⟩
 ·rename_i a b e1 e2
  obtain⟨q1,q2⟩:=sc _ _ x y e1 e2 (fun _ z=>nomatch z) (fun _ _ _ z=>nomatch z) (fun _ z=>nomatch z) (fun _ z=>nomatch z) (fun _ _ _ z=>nomatch z) (fun _ z=>nomatch z)
  obtain rfl:=q1;obtain rfl:=q2
  cases e
  have ed:decide (V.bl a=V.bl b)=decide (a=b):=by
   by_cases z:a=b
   ·subst z;simp
   ·rw[xy z,xy fun q=>z (V.bl.inj q)]
  cases neg with
  | true=>exact zSa pins s σ H _ _ u w Q I rx ry ⟨rfl,by rw[ed];exact k⟩
  | false=>exact zSf pins s σ H _ _ u w Q I rx ry ⟨rfl,by rw[ed];exact k⟩
 ·rename_i a b e1 e2
  obtain⟨q1,q2⟩:=sc _ _ x y e1 e2 (fun _ z=>nomatch z) (fun _ _ _ z=>nomatch z) (fun _ z=>nomatch z) (fun _ z=>nomatch z) (fun _ _ _ z=>nomatch z) (fun _ z=>nomatch z)
  obtain rfl:=q1;obtain rfl:=q2
  cases e
  have ed:decide (V.str a=V.str b)=decide (a=b):=by
   by_cases z:a=b
   ·subst z;simp
   ·rw[xy z,xy fun q=>z (V.str.inj q)]
  cases neg with
  | true=>exact zSa pins s σ H _ _ u w Q I rx ry ⟨rfl,by rw[ed];exact k⟩
  | false=>exact zSf pins s σ H _ _ u w Q I rx ry ⟨rfl,by rw[ed];exact k⟩
 ·rename_i l m e1 e2
  split at e
  ·rename_i h
   cases e
   have q1:=zD4 ha r1 e1 h.1
   have q2:=zD4 ha r2 e2 h.2.1
   have hd:=xp (zBo l) h.2.2.2
   cases neg with
   | true=>exact zQ5 hu pins s σ H _ _ u w Q I rx ry (.inl ⟨_,_,q1,q2,zB1 _ _ h.2.2.1,hd,by rw[zD9 h.1 h.2.1];exact k⟩)
   | false=>exact zQ7 hu pins s σ H _ _ u w Q I rx ry (.inl ⟨_,_,q1,q2,zB1 _ _ h.2.2.1,hd,by rw[zD9 h.1 h.2.1];exact k⟩)
  ·cases e
 ·rename_i l m e1 e2
  split at e
  ·rename_i h
   cases e
   have q1:=zD4 ha r1 e1 h.1
   have q2:=zD4 ha r2 e2 h.2.1
   have hd:=xp (zBo l) h.2.2.2
   cases neg with
   | true=>exact zQ5 hu pins s σ H _ _ u w Q I rx ry (.inr ⟨_,_,q1,q2,zB1 _ _ h.2.2.1,hd,by rw[zD9 h.1 h.2.1];exact k⟩)
   | false=>exact zQ7 hu pins s σ H _ _ u w Q I rx ry (.inr ⟨_,_,q1,q2,zB1 _ _ h.2.2.1,hd,by rw[zD9 h.1 h.2.1];exact k⟩)
  ·cases e
 ·cases e
theorem zLa (hu:X.A.units+64<cLine) (hK:X.K=K:=by rfl):OpR X (compareOp .Eq) (r2Of K DS.eqD):=by
 subst hK
 intro pins s σ H x y v u Q I rx ry hq15
 obtain⟨J,S,d1,d2,d,ha,r1,r2,e,k⟩:=hq15
 unfold DS.eqD at e
 cases e1:DS.eqO S d1 d2 with
 | none=>rw[e1]at e;cases e
 | some b=>rw[e1]at e;cases e;exact zQj false hu I rx ry ha r1 r2 e1 (k _ H ha .refl rfl)
theorem zS9 (hu:X.A.units+64<cLine) (hK:X.K=K:=by rfl):OpR X (compareOp .NotEq) (r2Of K DS.neD):=by
 subst hK
 intro pins s σ H x y v u Q I rx ry hq16
 obtain⟨J,S,d1,d2,d,ha,r1,r2,e,k⟩:=hq16
 unfold DS.neD at e
 cases e1:DS.eqO S d1 d2 with
 | none=>rw[e1]at e;cases e
 | some b=>rw[e1]at e;cases e;exact zQj true hu I rx ry ha r1 r2 e1 (k _ H ha .refl rfl)
end
end L2
namespace L2
open PySem PySem.Spec PyProof.Rows
open DS (D Store Exn Rs SR)
section
variable {X:Cx}{K:PySem.W.Frag}{E:XE}{J:Js}{S:Store}{H:Hp}{d d1 d2:D}{v:V}
theorem zVt:OpR X (compareOp .Gt) (r2Of K DS.gtD):=by
 intro pins s σ H x y v u Q I rx ry hq17
 obtain⟨J,S,d1,d2,d,ha,r1,r2,e,k⟩:=hq17
 unfold DS.gtD at e
 split at e
 ·cases e;obtain rfl:=r1;obtain rfl:=r2
  exact zYk pins s σ H _ _ v u Q I rx ry ⟨_,_,rfl,rfl,k _ H ha .refl (congrArg V.bl (by congr))⟩
 ·cases e
theorem zVu:OpR X (compareOp .GtE) (r2Of K DS.geD):=by
 intro pins s σ H x y v u Q I rx ry hq18
 obtain⟨J,S,d1,d2,d,ha,r1,r2,e,k⟩:=hq18
 unfold DS.geD at e
 split at e
 ·cases e;obtain rfl:=r1;obtain rfl:=r2
  exact zYl pins s σ H _ _ v u Q I rx ry ⟨_,_,rfl,rfl,k _ H ha .refl (congrArg V.bl (by congr))⟩
 ·cases e
theorem zXv {α β:Type}{l:List α}{xs:List β}{i:Int}{a:α}(hl:l.length=xs.length) (e:DS.atL l i=some a):∃j:Nat,l[j]?=some a/\∀b,xs[j]?=some b->atI xs i=some b:=by
 unfold DS.atL at e
 unfold atI
 rw[show DS.ixN l.length i=L2.ixN xs.length i by rw[hl];rfl]at e
 cases e1:L2.ixN xs.length i with
 | none=>rw[e1]at e;cases e
 | some j=>rw[e1]at e;exact⟨j,e,fun b eb=>eb⟩
theorem zFa {k k':Key}(h:keyD k=keyD k'):k=k':=by
 cases k <;> cases k' <;> first|(cases h;rfl)|cases h
theorem zF9 {k:Key}(r:Rep K J H (keyD k) v):v=kV k:=by cases k <;> exact r
theorem zEb:∀{l m:List Key},l.map keyD=m.map keyD->l=m
 | [],[],_=>rfl
 | [],_::_,h=>by cases h
 | _::_,[],h=>by cases h
 | a::l,b::m,h=>by
  have h:=uL h
  rw[zFa h.1,zEb h.2]
theorem zK3 {k k':List Key}(h:zQy k=zQy k'):k=k':=zEb (D.tup.inj h)
theorem zHz (h:DS.isKey d=true) (n:∀l,d≠.tup l):∃k,d=keyD k:=by
 cases d with
 | int i=>exact⟨.inl i,rfl⟩
 | str x=>exact⟨.inr x,rfl⟩
 | tup l=>exact absurd rfl (n l)
 | _=>cases h
theorem zLq:∀{l:List D},(l.all fun d=>match d with
  | .int _=>true
  | .str _=>true
  | _=>false)=true->∃k:List Key,l=k.map keyD
 | [],_=>⟨[],rfl⟩
 | d::l,h=>by
  rw[vV,xt]at h
  obtain⟨k,rfl⟩:=zLq h.2
  cases d with
  | int i=>exact⟨.inl i::k,rfl⟩
  | str x=>exact⟨.inr x::k,rfl⟩
  | _=>cases h.1
theorem zI7:∀{k:List Key}{xs:List V},RepL K J H (k.map keyD) xs->xs=k.map kV
 | [],_,h=>h
 | a::k,_,⟨x,r,e,h,t⟩=>by subst e;rw[zF9 h,zI7 t];rfl
open Classical in
theorem zHb {κ:Type}[DecidableEq κ] {f:κ->D}(fi:∀a b,f a=f b->a=b) (k:κ):∀{kvs:List (κ × V)}{vs:List D},RepL K J H vs (kvs.map (·.2))->
  (valV kvs k=none/\f k ∉ kvs.map (fun p=>f p.1)/\DS.look2 (kvs.map fun p=>f p.1) vs (f k)=none)\/∃w dv,valV kvs k=some w/\f k∈kvs.map (fun p=>f p.1)/\DS.look2 (kvs.map fun p=>f p.1) vs (f k)=some dv/\Rep K J H dv w
 | [],vs,r=>.inl ⟨rfl,by simp,by cases vs <;> rfl⟩
 | p::kvs,[],r=>by have h:p.2::kvs.map (·.2)=[]:=r;cases h
 | p::kvs,dv::vs,⟨x,t,e,h,rl⟩=>by
  have e:=uL (e)
  obtain⟨rfl,rfl⟩:=e
  by_cases z:p.1=k
  ·refine .inr ⟨p.2,dv,zEo z,by simp[z],?_,h⟩
   unfold DS.look2
   rw[xx]
   exact xg (by rw[z])
  ·have zf:f p.1≠f k:=fun q=>z (fi _ _ q)
   have e1:DS.look2 ((p::kvs).map fun p=>f p.1) (dv::vs) (f k)=DS.look2 (kvs.map fun p=>f p.1) vs (f k):=by
    rw[xx]
    conv=>lhs;unfold DS.look2
    exact xh zf
   rw[zEp z,e1]
   rcases zHb fi k rl with⟨a1,a2,a3⟩|⟨w,dv',a1,a2,a3,a4⟩
   ·exact .inl ⟨a1,by simp[a2,xw zf] <;> simpa using a2,a3⟩
   ·exact .inr ⟨w,dv',a1,by rw[xx];exact vd _ a2,a3,a4⟩
theorem zMj {t:Bool}{ks vs:List D}{a:Addr}{o:HO}{xs:List V}{y:V}(he:Rd H a o) (ht:DOb o t ks xs) (rl:RepL K J H vs xs) (ry:Rep K J H d y) (hk:DS.zCf t d=true):
  (DGet H a y none/\d ∉ ks/\DS.look2 ks vs d=none)\/∃w dv,DGet H a y (some w)/\d∈ks/\DS.look2 ks vs d=some dv/\Rep K J H dv w:=by
 unfold DS.zCf at hk
 rw[xt]at hk
 rcases ht with⟨rfl,kvs,rfl,rfl,rfl⟩|⟨rfl,kvs,rfl,rfl,rfl⟩
 ·obtain⟨k,rfl⟩:=zHz hk.1 fun l z=>by subst z;cases hk.2
  obtain rfl:=zF9 ry
  rcases zHb (fun a b=>zFa) k rl with⟨a1,a2,a3⟩|⟨w,dv,a1,a2,a3,a4⟩
  ·exact .inl ⟨.inl ⟨kvs,k,he,rfl,a1.symm⟩,a2,a3⟩
  ·exact .inr ⟨w,dv,.inl ⟨kvs,k,he,rfl,a1.symm⟩,a2,a3,a4⟩
 ·cases d with
  | tup l=>
   obtain⟨k,rfl⟩:=zLq (hk.1)
   obtain⟨b,zs,rfl,tb,rz⟩:=ry
   obtain rfl:=zI7 rz
   rcases zHb (fun a b=>zK3) k rl with⟨a1,a2,a3⟩|⟨w,dv,a1,a2,a3,a4⟩
   ·exact .inl ⟨.inr ⟨kvs,k,b,he,rfl,tb.1,a1.symm⟩,a2,a3⟩
   ·exact .inr ⟨w,dv,.inr ⟨kvs,k,b,he,rfl,tb.1,a1.symm⟩,a2,a3,a4⟩
  | _=>cases hk.2
theorem zMn {t:Bool}{ks vs:List D}(ha:AbS K J S H) (r:Rep K J H d v) (e:DS.look S d=some (.dct t ks vs)):∃a o xs,v=.ref a/\Rd H a o/\DOb o t ks xs/\RepL K J H vs xs:=by
 cases d with
 | dct t ks vs=>cases e;obtain⟨a,o,xs,rfl,_,h,q,rl⟩:=r;exact⟨a,o,xs,rfl,h,q,rl⟩
 | ref n=>
  obtain⟨a,ea,rfl⟩:=r
  obtain⟨c,ec,o,eo,rc⟩:=ha.at ea
  have e:S[n]?=_:=e
  rw[ec]at e;cases e
  obtain⟨xs,q,rl⟩:=rc
  exact⟨a,o,xs,rfl,.inl eo,q,rl⟩
 | _=>cases e
theorem zK6 {x:Str}(ha:AbS K J S H) (r:Rep K J H d v) (e:DS.look S d=some (.str x)):v=.str x:=by
 cases d with
 | str x=>cases e;exact r
 | ref n=>
  obtain⟨a,ea,rfl⟩:=r
  obtain⟨c,ec,o,eo,rc⟩:=ha.at ea
  have e:S[n]?=_:=e
  rw[ec]at e;cases e
  exact False.elim rc
 | _=>cases e
theorem zAz {l:List D}(e:DS.look S d=some (.tup l)\/DS.look S d=some (.lst l)):DS.items S d=some l:=by
 unfold DS.items
 rcases e with e|e <;> rw[e]
theorem ix_D (hu:X.A.units+1<cLine) (hK:X.K=K:=by rfl):IxR X (r2Of K DS.ixD):=by
 subst hK
 intro value slice pins s σ H x y v u Q I rx ry hq19 hs
 obtain⟨J,S,d1,d2,d,ha,r1,r2,e,k⟩:=hq19
 have seq:∀(l:List D) (i:Int),DS.items S d1=some l->d2=.int i->DS.atL l i=some d->wpAny (model X.prog X.w) X.A (subscriptTail value slice v u) (EP X pins σ Q) X.xe s:=fun l i e1 e2 e3=>by
  subst e2
  obtain rfl:=r2
  obtain⟨a,xs,rfl,hq,rl⟩:=zCg ha r1 e1
  obtain⟨j,ej,h⟩:=zXv rl.length e3
  obtain⟨w,ew,rw'⟩:=rl.get ej
  rcases hq with hq|hq
  ·exact zSt value slice pins s σ H _ _ v u Q I rx ry ⟨a,xs,i,w,rfl,rfl,hq,h w ew,k w H ha .refl rw'⟩ hs
  ·exact zWd value slice pins s σ H _ _ v u Q I rx ry ⟨a,xs,i,w,rfl,rfl,hq,h w ew,k w H ha .refl rw'⟩ hs
 unfold DS.ixD at e
 split at e
 ·rename_i l i e1;exact seq l i (zAz (.inl e1)) rfl e
 ·rename_i l i e1;exact seq l i (zAz (.inr e1)) rfl e
 ·rename_i z i e1
  split at e
  ·rename_i hz
   cases e2:DS.atL z.cps.toList i with
   | none=>rw[e2]at e;cases e
   | some c=>
    rw[e2]at e;cases e
    obtain rfl:=zK6 ha r1 e1
    obtain rfl:=r2
    exact zWe value slice pins s σ H _ _ v u Q I rx ry ⟨z,i,c,rfl,rfl,hz,by unfold DS.atL at e2;unfold atI;exact e2,k _ H ha .refl rfl⟩ hs
  ·cases e
 ·rename_i t ks vs kk e1
  split at e
  ·rename_i hk
   obtain⟨a,o,xs,rfl,he,q,rl⟩:=zMn ha r1 e1
   rcases zMj he q rl r2 hk with⟨_,_,h⟩|⟨w,dv,g,_,h,rw'⟩
   ·rw[h]at e;cases e
   ·rw[h]at e;cases e
    obtain rfl:v=Value.ref a:=rx
    exact tail_any (zHd I g) PySem.F.slot_dict_getitem.lookup (zMq hu I g ry fun w' s3 I3 rw2=>⟨w,H,I3,rw2,k w H ha .refl rw'⟩) hs
  ·cases e
 ·cases e
theorem zB5 {prog:Program}{w:World}{A:Around}{E:Value->Shared->Prop}{s:Shared}{t sl:Addr}{items:Array Value}{vl vu:Value}{lo hi:Option Int}{Q:Value->Shared->Prop}(ht:IsTup s.heap t items) (hs:s.heap.IsSliceOf sl vl vu .none) (pl:IsPart vl lo) (pu:IsPart vu hi)
  (hw:HT.sIx items.size 0 lo=0/\HT.sIx items.size items.size hi=items.size) (h:Q (.ref t) s):wpAny (model prog w) A (getItem (.ref t) (.ref sl)) Q E s:=by
 obtain⟨os,hos,hcs,hds⟩:=id hs
 have hTs:s.TypeIs (.ref sl) "slice":=⟨os,hos,hcs⟩
 unfold getItem
 try with_reducible refine xC ?_
 first|refine xc (xf ?_)|skip
 refine xc (wpAny_sequenceKey ht.typeIs (by decide) ?_)
 refine xc (vI ht.typeIs vJ (xS vJ ht.typeIs entry_tuple_getitem ?_ (args_tuple_getitem _ _)))
 show wpAny _ _ (Builtin.Tuple.tupleItemsOf (.ref t) >>= _) _ _ s
 refine xc (tupleItemsOf_ ht ?_)
 refine xc (uk hTs ?_)
 rw[xg (by decide)]
 refine xc (HT.sliceApplied_gen hs pl pu ?_)
 show wpAny _ _ (if(((HT.sIx items.size 0 lo:Nat):Int) == 0 && (1:Int) == 1 && (HT.sIx items.size items.size hi-HT.sIx items.size 0 lo) == items.size)=true then _ else _) _ _ s
 rw[xg (by rw[hw.1,hw.2];simp)]
 have tex:∀{Q:Bool->Shared->Prop},Q true s->wpAny (model prog w) A.in1 (Builtin.Tuple.tupleIsExact (.ref t)) Q E s:=fun {Q} q=>by
  unfold Builtin.Tuple.tupleIsExact
  refine xc (uk ht.typeIs (xf ?_))
  exact q
 refine xc (tex ?_)
 rw[xg rfl]
 refine xc (xX ?_)
 exact xf ⟨_,rfl,xf h⟩
theorem zHe {l:List D}{xs:List V}(rl:RepL K J H l xs) (lo hi:Option Int):RepL K J H (DS.cutL l lo hi) (cutV xs lo hi):=by
 unfold DS.cutL cutV
 rw[show DS.sIx l.length 0 lo=HT.sIx xs.length 0 lo by rw[rl.length];rfl,show DS.sIx l.length l.length hi=HT.sIx xs.length xs.length hi by rw[rl.length];rfl]
 exact(rl.drop _).take _
theorem zMr {l:List D}{xs:List V}{lo hi:Option Int}(rl:RepL K J H l xs) (hw:HT.sIx xs.length 0 lo=0/\HT.sIx xs.length xs.length hi=xs.length):DS.cutL l lo hi=l:=by
 unfold DS.cutL
 rw[show DS.sIx l.length 0 lo=HT.sIx xs.length 0 lo by rw[rl.length];rfl,show DS.sIx l.length l.length hi=HT.sIx xs.length xs.length hi by rw[rl.length];rfl,hw.1,hw.2,<- rl.length]
 simp
theorem zLl {l:List D}(ha:AbS K J S H) (r:Rep K J H d v) (e:DS.look S d=some (.lst l)):∃a xs,v=.ref a/\SqL K H a xs/\RepL K J H l xs:=by
 cases d with
 | lst l=>cases e;obtain⟨a,xs,rfl,t,rl⟩:=r;exact⟨a,xs,rfl,t.sq,rl⟩
 | klst l=>cases e;obtain⟨a,xs,rfl,t,rl⟩:=r;exact⟨a,xs,rfl,t.sq,rl⟩
 | ref n=>
  obtain⟨a,ea,rfl⟩:=r
  obtain⟨c,ec,o,eo,rc⟩:=ha.at ea
  have e:S[n]?=_:=e
  rw[ec]at e;cases e
  obtain⟨xs,rfl,rl⟩:=rc
  exact⟨a,xs,rfl,.inl (.inl eo),rl⟩
 | _=>cases e
theorem sl_D (hK:X.K=K:=by rfl):SlR X (slOf K DS.slD):=by
 subst hK
 intro pins s σ H x v vl vu lo hi sl Q I rx hs pl pu hq20
 obtain⟨J,S,d1,d,ha,r1,e,k⟩:=hq20
 unfold DS.slD at e
 split at e
 ·rename_i l
  cases e
  have r0:=r1
  obtain⟨a,xs,rfl,t,rl⟩:=r1
  by_cases hw:HT.sIx xs.length 0 lo=0/\HT.sIx xs.length xs.length hi=xs.length
  ·cases rx
   obtain⟨its,r,ht,hz⟩:=I.tuple t.sq
   have hlen:its.toArray.size=xs.length:=by rw[xq];exact r.length.symm
   refine⟨"tuple",_,vJ.lookup,ht.typeIs,zB5 ht hs pl pu (by rw[hlen];exact hw) ⟨.ref a,H,I,rfl,k _ H ha .refl ?_⟩⟩
   rw[zMr rl hw];exact r0
  ·exact zPx pins s σ H _ v vl vu lo hi sl Q I rx hs pl pu ⟨a,xs,rfl,t.sq,hw,fun p n=>k _ _ (ha.push n) (.push n) ⟨p,_,rfl,⟨zAd,ha.out n⟩,RepL.grow (.push n) _ _ (zHe rl lo hi)⟩⟩
 ·rename_i l
  have r0:=r1
  obtain⟨a,xs,rfl,t,rl⟩:=r1
  split at e
  ·rename_i hw
   cases e
   have hw:HT.sIx xs.length 0 lo=0/\HT.sIx xs.length xs.length hi=xs.length:=by rw[<- rl.length];exact hw
   cases rx
   obtain⟨its,r,ht,hz⟩:=I.tuple (t.sq)
   have hlen:its.toArray.size=xs.length:=by rw[xq];exact r.length.symm
   exact⟨"tuple",_,vJ.lookup,ht.typeIs,zB5 ht hs pl pu (by rw[hlen];exact hw) ⟨.ref a,H,I,rfl,k _ H ha .refl r0⟩⟩
  ·rename_i hw
   cases e
   have hw:¬ (HT.sIx xs.length 0 lo=0/\HT.sIx xs.length xs.length hi=xs.length):=by rw[<- rl.length];exact hw
   exact zPx pins s σ H _ v vl vu lo hi sl Q I rx hs pl pu ⟨a,xs,rfl,t.sq,hw,fun p n=>k _ _ (ha.push n) (.push n) ⟨p,_,rfl,⟨zAd,ha.out n⟩,RepL.grow (.push n) _ _ (zHe rl lo hi)⟩⟩
 ·split at e
  ·rename_i l e1
   cases e
   obtain⟨a,xs,rfl,t,rl⟩:=zLl ha r1 e1
   exact zR5 pins s σ H _ v vl vu lo hi sl Q I rx hs pl pu ⟨a,xs,rfl,t,fun p n=>k _ _ (ha.push n) (.push n) ⟨p,_,rfl,⟨zAd,ha.out n⟩,RepL.grow (.push n) _ _ (zHe rl lo hi)⟩⟩
  ·cases e
end
end L2
namespace L2
open PySem PySem.Spec PyProof.Rows
open DS (D Store Exn Rs SR)
section
variable {X:Cx}{K:PySem.W.Frag}{E:XE}{J:Js}{S:Store}{H:Hp}{d d1 d2:D}{v:V}
noncomputable def pOf (K:PySem.W.Frag) (g:Store->D->D->D->Option Store):TSet:=fun o i v H Q=>∃J S d1 d2 d3 S',AbS K J S H/\Rep K J H d1 o/\Rep K J H d2 i/\Rep K J H d3 v/\g S d1 d2 d3=some S'/\∀H',AbS K J S' H'->Grow J H J H'->Q H'
open Classical in
theorem zV0 {κ:Type}[DecidableEq κ] {f:κ->D}(fi:∀a b,f a=f b->a=b) {k:κ}{dv:D}{w:V}{kvs:List (κ × V)}{vs:List D}(r:RepL K J H vs (kvs.map (·.2))) (rv:Rep K J H dv w):
  (DS.put2 (kvs.map fun p=>f p.1) vs (f k) dv).1=(putK kvs k w).map (fun p=>f p.1)/\RepL K J H (DS.put2 (kvs.map fun p=>f p.1) vs (f k) dv).2 ((putK kvs k w).map (·.2)):=by
 have any_iff:(kvs.any fun kv=>decide (kv.1=k))=true <-> f k∈kvs.map fun p=>f p.1:=by
  simp only[List.any_eq_true,decide_eq_true_eq,xA]
  constructor
  ·rintro⟨p,hp,e⟩;exact⟨p,hp,by rw[e]⟩
  ·rintro⟨p,hp,e⟩;exact⟨p,hp,fi _ _ e⟩
 unfold DS.put2 putK
 by_cases hm:f k∈kvs.map fun p=>f p.1
 ·rw[xg hm,xg (any_iff.mpr hm)]
  refine⟨?_,?_⟩
  ·rw[ue]
   refine List.map_congr_left fun p _=>?_
   show f p.1=f (if p.1=k then(p.1,w)else p).1
   split <;> rfl
  ·clear hm any_iff
   induction kvs generalizing vs with
   | nil=>cases vs <;> rfl
   | cons p kvs ih=>
    cases vs with
    | nil=>cases r
    | cons dw vs=>
     obtain⟨x,t,e,h,rl⟩:=r
     have e:=uL (e)
     obtain⟨rfl,rfl⟩:=e
     refine⟨(if p.1=k then(p.1,w)else p).2,_,rfl,?_,ih rl⟩
     by_cases z:p.1=k
     ·rw[xg z,xg (show f p.1=f k by rw[z])];exact rv
     ·rw[xh z,xh fun q=>z (fi _ _ q)];exact h
 ·rw[xh hm,xh (fun z=>hm (any_iff.mp z))]
  refine⟨by simp,?_⟩
  rw[vQ]
  exact r.snoc rv
theorem zTh {o i e:Expr}{mo mi m:DS.EM}{sp2 pos:Pos}{g:Store->D->D->D->Option Store}(hs:PSet X (pOf K g)) (ho:DE X K E o mo) (hi:DE X K E i mi) (he:DE X K E e m) (h:nsl i=true:=by rfl) (h2:nco e=true:=by rfl):DS1 X K E (.Assign [.Subscript o i sp2] e pos) (DS.sPut g mo mi m):=
 ⟨(qasgs' he.h (zRt ho.h hi.h hs h) h2).imp fun D σ H ⟨env,S,J,ha,he,q⟩=>⟨env,S,J,ha,he,q.then.imp fun dv S1 J1 H1 _ a1 g1 q1 v rv=>⟨env,S1,J1,a1,he.grow g1,q1.then.imp fun dx S2 J2 H2 _ a2 g2 q2 x rx=>
  ⟨env,S2,J2,a2,he.grow (g1.trans g2),q2.then.imp fun di S3 J3 H3 _ a3 g3 q3 y ry=>by
   cases e1:g S3 dx di dv with
   | none=>rw[e1]at q3;exact False.elim q3
   | some S4=>
    rw[e1]at q3
    exact⟨J3,S3,dx,di,dv,S4,a3,Rep.grow g3 _ _ rx,ry,Rep.grow (g2.trans g3) _ _ rv,e1,fun H' h1 h2=>q3 J3 H' σ h1 h2 (he.grow (g1.trans (g2.trans (g3.trans h2))))⟩⟩⟩⟩⟩
theorem zE8 {ds:List D}{xs:List V}{d:D}(r:RepL K J H [d] xs):∃x,xs=[x]/\Rep K J H d x:=by
 obtain⟨x,t,rfl,h,rfl⟩:=r
 exact⟨x,rfl,h⟩
theorem zXr {pins:List (Addr × Obj)}{σ:St}{s:Shared}{a:Addr}{kvs:List (List Key × V)}{Q:Value->Shared->Prop}{A:Around}{E:Value->Shared->Prop}(I:Inv X pins σ H s) (e:Rd H a (.dT kvs)) (h:∀t s',Inv X pins σ H s'->Q (.int kvs.length t) s'):wpAny (model X.prog X.w) A (call (.builtin "len") [.ref a]) Q E s:=by
 obtain⟨z,hd,xs,rel,dd⟩:=zMc I.hok e
 have hT:=dd.typeIs
 obtain⟨o,es,ep,ho,hx,hdat,hes,hall,hn⟩:=dd
 have hsz:es.size=kvs.length:=by rw[<- xW,hes,xF,<- Paired.length rel]
 rw[xZ]at z
 have mt:MeetsIn X.prog X.w (Builtin.«dict.__len__» ⟨[.ref a],[]⟩) (fun _ R s'=>s'=s/\R (.ok (.ret (.int kvs.length s'.toks))) { s' with toks:=s'.toks+1 }):=.of_wp fun A R s' hq21=>by
  obtain⟨e,h⟩:=hq21
  subst e
  show wpAny _ _ (dictSize a >>= _) _ _ s'
  unfold dictSize
  refine xc (xc (wpAny_dictEntries ho hdat (xf ?_)))
  show wpAny _ _ (Builtin.Dict.pendingCount a >>= _) _ _ s'
  refine xc (wpAny_pendingCount_other hd ?_)
  refine wpAny_ret_mkInt ?_
  rw[Nat.add_zero,hsz];exact h
 refine Calls.call_function_entry kind_len plain_len entry_len (args_len1 _) ?_
 unfold Builtin.«len»
 refine xc (xf ?_)
 refine xc (vI hT PySem.F.slot_dict_len (call_meetsIn PySem.F.slot_dict_len hT PySem.F.entry_dict_len (PySem.F.args_dict_len_1 _) mt ⟨rfl,?_⟩))
 show wpAny _ _ _ _ _ { s with toks:=s.toks+1 }
 refine xc (xC (xf ?_))
 refine xc (wpAny_letGo ?_)
 show wpAny _ _ (if((kvs.length:Nat):Int)<0 then _ else _) _ _ _
 rw[xh (by nofun)]
 show wpAny _ _ (if((kvs.length:Nat):Int) >= 2 ^ 63 then _ else _) _ _ _
 rw[xh (by nofun)]
 exact xc (wpAny_mkInt (xf ⟨_,rfl,h _ _ (I.tok _)⟩))
theorem zJn (hK:X.K=K:=by rfl):zAx X (.builtin "len") (cOf K DS.lenB):=by
 subst hK
 intro pins s σ H xs us Q I r hq22
 obtain⟨J,S,ds,d,ha,rl,e,k⟩:=hq22
 unfold DS.lenB at e
 split at e
 ·rename_i d0
  obtain⟨x,rfl,rx⟩:=zE8 (ds:=[]) rl
  have seq:∀l,DS.items S d0=some l->d=.int l.length->wpAny (model X.prog X.w) X.A (call (.builtin "len") us) (EP X pins σ Q) X.xe s:=fun l e1 e2=>by
   subst e2
   obtain⟨a,ys,rfl,hq,q⟩:=zCg ha rx e1
   exact zGe pins s σ H _ us Q I r ⟨a,ys,rfl,hq,k _ H ha .refl (by rw[q.length];rfl)⟩
  split at e
  ·rename_i l e1;cases e;exact seq l (zAz (.inl e1)) rfl
  ·rename_i l e1;cases e;exact seq l (zAz (.inr e1)) rfl
  ·rename_i t ks vs e1
   cases e
   obtain⟨a,o,ys,rfl,he,q,_⟩:=zMn ha rx e1
   obtain⟨u,rfl,ru⟩:=vals1 r
   cases ru
   rcases q with⟨rfl,kvs,rfl,rfl,rfl⟩|⟨rfl,kvs,rfl,rfl,rfl⟩
   ·exact zZ8 I he fun t s' I'=>⟨.int kvs.length,H,I',⟨t,rfl⟩,k _ H ha .refl (by rw[xF];rfl)⟩
   ·exact zXr I he fun t s' I'=>⟨.int kvs.length,H,I',⟨t,rfl⟩,k _ H ha .refl (by rw[xF];rfl)⟩
  ·rename_i z e1
   split at e
   ·rename_i hz
    cases e
    obtain rfl:=zK6 ha rx e1
    exact zGd pins s σ H _ us Q I r ⟨z,rfl,hz,k _ H ha .refl rfl⟩
   ·cases e
  ·cases e
 ·cases e
theorem zHh (hK:X.K=K:=by rfl):zAx X (.type "list") (cOfF K DS.zD0):=by
 subst hK
 intro pins s σ H xs us Q I r hq23
 obtain⟨J,S,ds,d,ha,rl,e,k⟩:=hq23
 unfold DS.zD0 at e
 split at e
 ·rename_i d0
  obtain⟨x,rfl,rx⟩:=zE8 (ds:=[]) rl
  cases e1:DS.items S d0 with
  | none=>rw[e1]at e;cases e
  | some l=>
   rw[e1]at e;cases e
   obtain⟨a,ys,rfl,hq,q⟩:=zCg ha rx e1
   exact zGc pins s σ H _ us Q I r ⟨a,ys,rfl,hq,fun p n=>k p _ H ha .refl n ⟨ys,rfl,q⟩⟩
 ·cases e
theorem zGb (hK:X.K=K:=by rfl):zAx X (.type "tuple") (cOf K DS.zC2):=by
 subst hK
 intro pins s σ H xs us Q I r hq24
 obtain⟨J,S,ds,d,ha,rl,e,k⟩:=hq24
 unfold DS.zC2 at e
 split at e
 ·rename_i d0
  obtain⟨x,rfl,rx⟩:=zE8 (ds:=[]) rl
  split at e
  ·rename_i l
   cases e
   have r0:=rx
   obtain⟨a,ys,rfl,t,q⟩:=rx
   exact zBj pins s σ H _ us Q I r ⟨a,ys,rfl,.inr ⟨t.sq,k _ H ha .refl r0⟩⟩
  ·rename_i l
   cases e
   have r0:=rx
   obtain⟨a,ys,rfl,t,q⟩:=rx
   exact zBj pins s σ H _ us Q I r ⟨a,ys,rfl,.inr ⟨t.sq,k _ H ha .refl r0⟩⟩
  ·cases e1:DS.litems S d0 with
   | none=>rw[e1]at e;cases e
   | some l=>
    rw[e1]at e;cases e
    obtain⟨a,ys,rfl,hq,q⟩:=zCd ha rx e1
    exact zBj pins s σ H _ us Q I r ⟨a,ys,rfl,.inl ⟨.inl hq,fun p n=>k _ _ (ha.push n) (.push n) ⟨p,ys,rfl,⟨zAd,ha.out n⟩,RepL.grow (.push n) _ _ q⟩⟩⟩
 ·cases e
theorem zIq:∀{l:List D}{xs:List V}{bs:List Bool},RepL K J H l xs->DS.bools l=some bs->xs=bs.map V.bl
 | [],_,_,r,e=>by cases e;exact r
 | d::l,_,bs,⟨x,t,e0,h,rl⟩,e=>by
  subst e0
  cases d with
  | bl b=>
   unfold DS.bools at e
   cases e1:DS.bools l with
   | none=>rw[e1]at e;cases e
   | some cs=>rw[e1]at e;cases e;rw[zIq rl e1,show x=.bl b from h];rfl
  | _=>cases e
theorem zJo (hc:X.calm=true) (hK:X.K=K:=by rfl):zAx X (.builtin "all") (cOf K DS.allB):=by
 subst hK
 intro pins s σ H xs us Q I r hq25
 obtain⟨J,S,ds,d,ha,rl,e,k⟩:=hq25
 unfold DS.allB at e
 split at e
 ·rename_i d0
  obtain⟨x,rfl,rx⟩:=zE8 (ds:=[]) rl
  cases e1:DS.litems S d0 with
  | none=>rw[e1]at e;cases e
  | some l=>
   rw[e1]at e
   cases e2:DS.bools l with
   | none=>simp[e2]at e
   | some bs=>
    simp only[Option.bind_some,e2,ud,Option.some.injEq]at e
    subst e
    obtain⟨a,ys,rfl,hq,q⟩:=zCd ha rx e1
    obtain rfl:=zIq q e2
    exact zN6 hc pins s σ H _ us Q I r ⟨a,bs,rfl,.inl hq,k _ H ha .refl rfl⟩
 ·cases e
theorem zGv {d1 d2:D}{xs:List V}(r:RepL K J H [d1,d2] xs):∃x y,xs=[x,y]/\Rep K J H d1 x/\Rep K J H d2 y:=by
 obtain⟨x,t,rfl,h,y,t',rfl,h',rfl⟩:=r
 exact⟨x,y,rfl,h,h'⟩
theorem zJm (hc:X.calm=true):zAx X (.builtin "max") (cOf K DS.max2B):=by
 intro pins s σ H xs us Q I r hq26
 obtain⟨J,S,ds,d,ha,rl,e,k⟩:=hq26
 unfold DS.max2B at e
 split at e
 ·obtain⟨x,y,rfl,rx,ry⟩:=zGv rl
  obtain rfl:=rx;obtain rfl:=ry
  cases e
  exact zN4 hc pins s σ H _ us Q I r ⟨_,_,rfl,k _ H ha .refl (congrArg V.int (by congr))⟩
 ·cases e
theorem zJ4:MtR X "list.append" (mOf K DS.zC7):=by
 intro pins s σ H x xs v us Q I rx rs hq27
 obtain⟨J,S,d1,ds,d,S',ha,r1,rl,e,k⟩:=hq27
 unfold DS.zC7 at e
 split at e
 ·rename_i n dv
  obtain⟨a,ea,rfl⟩:=r1
  obtain⟨c,ec,ob,eo,rc⟩:=ha.at ea
  obtain⟨y,rfl,ry⟩:=zE8 (ds:=[]) rl
  split at e
  ·rename_i l es
   rw[ec]at es;cases es
   obtain⟨ys,rfl,rl⟩:=rc
   split at e
   ·rename_i hz
    cases e
    exact zLf pins s σ H _ _ v us Q I rx rs ⟨a,ys,y,rfl,rfl,eo,by rw[<- rl.length];exact hz,k _ _ (ha.write ea ⟨_,rfl,rl.snoc ry⟩) (.write ea) rfl⟩
   ·cases e
  ·cases e
 ·cases e
theorem zSk:MtR X "list.pop" (mOf K DS.popM):=by
 intro pins s σ H x xs v us Q I rx rs hq28
 obtain⟨J,S,d1,ds,d,S',ha,r1,rl,e,k⟩:=hq28
 unfold DS.popM at e
 split at e
 ·rename_i n
  obtain⟨a,ea,rfl⟩:=r1
  obtain⟨c,ec,ob,eo,rc⟩:=ha.at ea
  obtain rfl:=rl
  split at e
  ·rename_i l es
   rw[ec]at es;cases es
   obtain⟨ys,rfl,rl⟩:=rc
   cases e1:l[l.length-1]? with
   | none=>rw[e1]at e;cases e
   | some w=>
    rw[e1]at e
    simp only[ud,Option.some.injEq,Prod.mk.injEq]at e
    obtain⟨rfl,rfl⟩:=e
    obtain⟨y,ey,ry⟩:=rl.get e1
    have g:Grow J H J (upd H a (.lst ys.dropLast)):=.write ea
    exact zVz pins s σ H _ _ v us Q I rx rs ⟨a,ys,y,rfl,rfl,eo,by rw[<- rl.length];exact ey,k _ _ (ha.write ea ⟨_,rfl,rl.dropLast⟩) g (Rep.grow g _ _ ry)⟩
  ·cases e
 ·cases e
end
end L2
namespace L2
open PySem PySem.Spec PyProof.Rows
open DS (D Store Exn Rs SR)
section
variable {X:Cx}{K:PySem.W.Frag}{E:XE}{J:Js}{S:Store}{H:Hp}{d d1 d2:D}{v:V}
theorem zLv {tg:Expr}{pins:List (Addr × Obj)}{s1:Shared}{σ:St}{H1:Hp}{R:It->Hp->Prop}{a:Addr}{xs:List V}(I1:Inv X pins σ H1 s1) (hq:SqL X.K H1 a xs) (q:R (Itl X.K a) H1):wpAny (model X.prog X.w) X.A (pyIter (.ref a)) (PIE X pins σ tg R) X.xe s1:=by
 obtain⟨its,rv,p,hz⟩:=I1.list hq
 refine uV p.isList ?_
 refine⟨s1.heap.objs.size,[s1.heap.objs.size],_,_,H1,rfl,I1.kept fun b o e=>xm _ e,zK2 a _,⟨_,xD _ rfl,rfl,rfl⟩,fun b hb=>?_,q⟩
 have e:b=s1.heap.objs.size:=by simpa using hb
 subst e
 exact I1.fpOk (xi _) (I1.hok.fresh (xi _))
theorem zOy {tg:Expr}{pins:List (Addr × Obj)}{s1:Shared}{σ:St}{H1:Hp}{R:It->Hp->Prop}{a:Addr}{xs:List V}(I1:Inv X pins σ H1 s1) (hq:SqT X.K H1 a xs) (q:R (Itt X.K a) H1):wpAny (model X.prog X.w) X.A (pyIter (.ref a)) (PIE X pins σ tg R) X.xe s1:=by
 obtain⟨its,rv,p,hz⟩:=I1.tuple hq
 refine wpAny_pyIter_tuple (p) ?_
 refine⟨s1.heap.objs.size,[s1.heap.objs.size],_,_,H1,rfl,I1.kept fun b o e=>xm _ e,zIy a _,⟨_,xD _ rfl,rfl,rfl⟩,fun b hb=>?_,q⟩
 have e:b=s1.heap.objs.size:=by simpa using hb
 subst e
 exact I1.fpOk (xi _) (I1.hok.fresh (xi _))
theorem zOz {tg:Expr}{pins:List (Addr × Obj)}{s1:Shared}{σ:St}{H1:Hp}{R:It->Hp->Prop}{z:Str}{t:Tok}(I1:Inv X pins σ H1 s1) (ha:z.cps.all (·<128)=true) (q:R (Its z) H1):wpAny (model X.prog X.w) X.A (pyIter (.str z t)) (PIE X pins σ tg R) X.xe s1:=by
 refine wpAny_pyIter_ascii ha ?_
 refine⟨s1.heap.objs.size,[s1.heap.objs.size],_,Its z,H1,rfl,I1.kept fun b o e=>xm _ e,zNi s1.heap.objs.size z t,⟨vg _,_,xD _ rfl,rfl,rfl⟩,fun b hb=>?_,q⟩
 have e:b=s1.heap.objs.size:=by simpa using hb
 subst e
 exact I1.fpOk (xi _) (I1.hok.fresh (xi _))
theorem stays_list {l:List D}(ha:AbS K J S H) (r:Rep K J H d v) (e:DS.look S d=some (.lst l)):∃a xs,v=.ref a/\SqL K H a xs/\∀J' H' S',Grow J H J' H'->AbS K J' S' H'->DS.gOk S' (DS.gdOf S d)->∃ys,SqL K H' a ys/\RepL K J' H' l ys:=by
 cases d with
 | lst l=>cases e;obtain⟨a,xs,rfl,t,rl⟩:=r;exact⟨a,xs,rfl,t.sq,fun J' H' S' g _ _=>⟨xs,(t.grow g).sq,RepL.grow g _ _ rl⟩⟩
 | klst l=>cases e;obtain⟨a,xs,rfl,t,rl⟩:=r;exact⟨a,xs,rfl,t.sq,fun J' H' S' g _ _=>⟨xs,(t.grow g).sq,RepL.grow g _ _ rl⟩⟩
 | ref n=>
  obtain⟨a,ea,rfl⟩:=r
  obtain⟨c,ec,o,eo,rc⟩:=ha.at ea
  have e:S[n]?=_:=e
  rw[ec]at e;cases e
  obtain⟨xs,rfl,rl⟩:=rc
  refine⟨a,xs,rfl,.inl (.inl eo),fun J' H' S' g ha' gd=>?_⟩
  have e':=gd (n,.lst l) (by simp[DS.gdOf,ec])
  obtain⟨o',eo',rc'⟩:=ha'.ob n a _ (g.pre n a ea) e'
  obtain⟨ys,rfl,rl'⟩:=rc'
  exact⟨ys,.inl (.inl eo'),rl'⟩
 | _=>cases e
theorem stays_tup {l:List D}(ha:AbS K J S H) (r:Rep K J H d v) (e:DS.look S d=some (.tup l)):∃a xs,v=.ref a/\SqT K H a xs/\∀J' H',Grow J H J' H'->SqT K H' a xs/\RepL K J' H' l xs:=by
 cases d with
 | tup l=>cases e;obtain⟨a,xs,rfl,t,rl⟩:=r;exact⟨a,xs,rfl,t.sq,fun J' H' g=>⟨(t.grow g).sq,RepL.grow g _ _ rl⟩⟩
 | ktup l=>cases e;obtain⟨a,xs,rfl,t,rl⟩:=r;exact⟨a,xs,rfl,t.sq,fun J' H' g=>⟨t.sq,RepL.grow g _ _ rl⟩⟩
 | ref n=>
  obtain⟨a,ea,rfl⟩:=r
  obtain⟨c,ec,o,eo,rc⟩:=ha.at ea
  have e:S[n]?=_:=e
  rw[ec]at e;cases e
  exact False.elim rc
 | _=>cases e
theorem zSv {a:Addr}{l:List D}{gd:List (Nat × D)}(h:∀J' H' S',Grow J H J' H'->AbS K J' S' H'->DS.gOk S' gd->∃ys,SqL K H' a ys/\RepL K J' H' l ys):ItOk K J H ⟨l,gd⟩ (Itl K a) where
 go:=fun i H' J' S' ha g gd hi=>by
  obtain⟨ys,q,rl⟩:=h J' H' S' g ha gd
  exact⟨ys,ys[i]'(by rw[<- rl.length];exact hi),q,xu _⟩
 yld:=fun i H' J' S' x H'' ha g gd y d ed=>by
  obtain⟨rfl,y⟩:=y
  obtain⟨ys,q,rl⟩:=h J' H'' S' g ha gd
  obtain⟨x',ex,rx⟩:=rl.get ed
  rw[y ys q]at ex;cases ex
  exact⟨ha,.refl,rx⟩
 stop:=fun i H' J' S' ha g gd hi=>by
  obtain⟨ys,q,rl⟩:=h J' H' S' g ha gd
  exact⟨ys,q,by rw[<- rl.length];exact hi⟩
theorem zWg {a:Addr}{xs:List V}{l:List D}{gd:List (Nat × D)}(h:∀J' H',Grow J H J' H'->SqT K H' a xs/\RepL K J' H' l xs):ItOk K J H ⟨l,gd⟩ (Itt K a) where
 go:=fun i H' J' S' ha g gd hi=>by
  obtain⟨q,rl⟩:=h J' H' g
  exact⟨xs,xs[i]'(by rw[<- rl.length];exact hi),q,xu _⟩
 yld:=fun i H' J' S' x H'' ha g gd y d ed=>by
  obtain⟨rfl,y⟩:=y
  obtain⟨q,rl⟩:=h J' H'' g
  obtain⟨x',ex,rx⟩:=rl.get ed
  rw[y xs q]at ex;cases ex
  exact⟨ha,.refl,rx⟩
 stop:=fun i H' J' S' ha g gd hi=>by
  obtain⟨q,rl⟩:=h J' H' g
  exact⟨xs,q,by rw[<- rl.length];exact hi⟩
theorem zWh {x:Str}:ItOk K J H ⟨DS.chars x,[]⟩ (Its x) where
 go:=fun i H' J' S' ha g gd hi=>by
  have:(DS.chars x).length=x.cps.size:=by simp[DS.chars]
  show i<x.cps.size
  rw[<- this];exact hi
 yld:=fun i H' J' S' y H'' ha g gd yl d ed=>by
  obtain⟨rfl,c,ec,rfl⟩:=yl
  have e:(DS.chars x)[i]?=some (D.str ⟨#[c]⟩):=by
   unfold DS.chars
   rw[vx,uo,ec];rfl
  rw[e]at ed;cases ed
  exact⟨ha,.refl,rfl⟩
 stop:=fun i H' J' S' ha g gd hi=>by
  have:(DS.chars x).length=x.cps.size:=by simp[DS.chars]
  show x.cps.size<=i
  rw[<- this];exact hi
theorem zXb {tg e:Expr}{m:DS.EM}(he:DE X K E e m) (hK:X.K=K:=by rfl):DI X K E tg e (DS.iVal m):=by
 subst hK
 refine⟨⟨fun pins s σ H R I hq1=>?_⟩⟩
 obtain⟨env,S,J,ha,hE,q⟩:=hq1
 refine thn (he.h.h pins s σ H (fun x H1=>∃J1 S1 d w,AbS X.K J1 S1 H1/\Rep X.K J1 H1 d x/\DS.zC8 S1 d=some w/\∀It,ItOk X.K J1 H1 w It->R It H1) I ⟨env,S,J,ha,hE,q.bind.imp fun d S1 J1 H1 _ a1 g1 q1 x rx=>?_⟩) fun v s1 hq1=>?_
 ·obtain⟨w,ew,k⟩:=q1.lift
  exact⟨J1,S1,d,w,a1,rx,ew,k J1 H1 a1 .refl⟩
 ·obtain⟨x,H1,I1,r1,J1,S1,d,w,a1,rx,ew,k⟩:=hq1
  unfold DS.zC8 at ew
  split at ew
  ·rename_i l el
   cases ew
   obtain⟨a,xs,rfl,hq,st⟩:=stays_tup a1 rx el
   cases r1
   exact zOy I1 hq (k _ (zWg st))
  ·rename_i l el
   cases ew
   obtain⟨a,xs,rfl,hq,st⟩:=stays_list a1 rx el
   cases r1
   exact zLv I1 hq (k _ (zSv st))
  ·rename_i z ez
   split at ew
   ·rename_i hz
    cases ew
    obtain rfl:=zK6 a1 rx ez
    obtain⟨t,rfl⟩:=r1
    exact zOz I1 hz (k _ zWh)
   ·cases ew
  ·cases ew
theorem zP1 {lo:Int}{n:Nat}:ItOk K J H ⟨(List.range n).map fun(k:Nat)=>D.int (lo+k),[]⟩ (Itr lo n) where
 go:=fun i H' J' S' ha g gd hi=>by show i<n;simpa using hi
 yld:=fun i H' J' S' y H'' ha g gd yl d ed=>by
  obtain⟨rfl,rfl⟩:=yl
  rw[vx]at ed
  by_cases hi:i<n
  ·rw[List.getElem?_range hi]at ed
   cases ed
   exact⟨ha,.refl,rfl⟩
  ·rw[vU (by simpa using hi)]at ed
   cases ed
 stop:=fun i H' J' S' ha g gd hi=>by show n<=i;simpa using hi
theorem fits_of {i:Int}(h:DS.fits62 i=true):-(2 ^ 62)<=i/\i<2 ^ 62:=of_decide_eq_true h
theorem zMi {tg a:Expr}{p pos:Pos}{am:DS.AM}(hg:Gl X "range") (hm:X.mg "range"=none) (ha:DA X K E [a] am) (h:nst a=true:=by rfl):DI X K E tg (.Call (.Name "range" p) [a] [] pos) (DS.zIc am):=
 ⟨(qrange1' hg hm ha.h h).imp fun σ H R ⟨env,S,J,h,hE,q⟩=>⟨env,S,J,h,hE,q.bind.imp fun ds S1 J1 H1 e1 a1 g1 q1 xs rx=>by
  obtain⟨w,ew,k⟩:=q1.lift
  have hl:=ha.len _ _ _ _ e1
  match ds,hl with
  | [d],_=>
   obtain⟨x,rfl,r⟩:=zE8 (ds:=[]) rx
   cases d with
   | int j=>
    unfold DS.zEy at ew
    simp only at ew
    by_cases hf:DS.fits62 j=true
    ·rw[xg hf]at ew;cases ew
     obtain rfl:=r
     refine⟨j,rfl,(fits_of hf).1,(fits_of hf).2,k J1 H1 a1 .refl _ ?_⟩
     have e:DS.zE6 0 j=(List.range j.toNat).map fun(k:Nat)=>D.int (0+k):=by unfold DS.zE6;rw[Int.sub_zero]
     rw[e]
     exact zP1
    ·rw[xh hf]at ew;cases ew
   | _=>cases ew⟩⟩
theorem zJi {e:Expr}{m:DS.EM}{p p2 pos pos2:Pos}(hc:X.calm=true) (he:DE X K E e m) (hgl:Gl X "list") (hml:X.mg "list"=none) (hgr:Gl X "reversed") (hmr:X.mg "reversed"=none) (h:nst e=true:=by rfl) (hK:X.K=K:=by rfl):
  DF X K E (.Call (.Name "list" p) [.Call (.Name "reversed" p2) [e] [] pos2] [] pos) (DS.eUn DS.revL m):=by
 subst hK
 refine⟨(qlistrev' hc he.h hgl hml hgr hmr h).imp fun σ H Q ⟨env,S,J,ha,hE,q⟩=>⟨env,S,J,ha,hE,q.bind.imp fun d S1 J1 H1 _ a1 g1 q1 x rx=>?_⟩⟩
 obtain⟨c,ec,k⟩:=q1.lift
 unfold DS.revL at ec
 split at ec
 ·rename_i l el
  cases ec
  obtain⟨a,xs,rfl,hq,rl⟩:=zLl a1 rx el
  exact⟨a,xs,rfl,hq,fun p n=>k J1 H1 a1 .refl p _ n ⟨_,rfl,rl.reverse⟩⟩
 ·cases ec
structure DPs (X:Cx) (K:PySem.W.Frag) (E:XE) (pos:Pos) (keys:List (Option Expr)) (values:List Expr) (ks:List Key) (am:DS.AM):Prop where
 ex:∃trs,SPs X pos keys values trs/\∀σ H Q,(∃env S J,AbS K J S H/\RepE K J H env σ/\Post K E J H (am env S) (fun vs _ J' H'=>∀xs,RepL K J' H' vs xs->Q ((ks.map kV).zip xs) H'))->zHv trs σ H Q
 len:∀env S ds S',am env S=.ok ds S'->ds.length=ks.length
theorem zTk {pos:Pos}:DPs X K E pos [] [] [] DS.aNil:=⟨⟨[],zO9,fun σ H Q hz2=>by obtain⟨env,S,J,ha,he,q⟩:=hz2;exact q J H ha .refl [] rfl⟩,fun _ _ _ _ e=>by cases e;rfl⟩
theorem zPg {pos kp:Pos}{x:Str}{j:_}{v:Expr}{ks:List (Option Expr)}{vs:List Expr}{kl:List Key}{m:DS.EM}{am:DS.AM}(hv:DE X K E v m) (hr:DPs X K E pos ks vs kl am):DPs X K E pos (some (.Constant (.str x) j kp)::ks) (v::vs) (.inr x::kl) (DS.zA0 m am):=by
 obtain⟨trs,hp,hq⟩:=hr.ex
 refine⟨⟨_,zKw (zL2) hv.h hp,fun σ H Q ⟨env,S,J,ha,he,q⟩=>⟨env,S,J,ha,he,q.bind.imp fun d S1 J1 H1 _ a1 g1 q1 y ry=>hq σ H1 _ ⟨env,S1,J1,a1,he.grow g1,q1.bind.imp fun ds S2 J2 H2 _ a2 g2 q2 xs rx=>
  q2 J2 H2 a2 .refl (y::xs) ⟨y,xs,rfl,Rep.grow g2 _ _ ry,rx⟩⟩⟩⟩,fun env S ds S' e1=>?_⟩
 unfold DS.zA0 at e1
 cases e2:m env S with
 | ok d S1=>
  rw[e2,Rs.bind_ok]at e1
  cases e3:am env S1 with
  | ok dr S2=>rw[e3,Rs.bind_ok]at e1;cases e1;simp[hr.len _ _ _ _ e3]
  | _=>rw[e3]at e1;cases e1
 | _=>rw[e2]at e1;cases e1
theorem zEa:∀{kvs acc:List (Key × V)},((acc++kvs).map (·.1)).Nodup->zCw acc kvs=acc++kvs
 | [],acc,_=>by simp[zCw]
 | p::kvs,acc,h=>by
  have hn:(acc.any fun kv=>decide (kv.1=p.1))=false:=by
   rw[uF]
   intro z
   obtain⟨q,hq,e⟩:=List.any_eq_true.mp z
   rw[vQ,xx]at h
   exact(List.nodup_append.mp h).2.2 q.1 (xA.mpr ⟨q,hq,rfl⟩) p.1 (xO ..) (of_decide_eq_true e)
  have e:putK acc p.1 p.2=acc++[p]:=by unfold putK;rw[hn];rfl
  show zCw (putK acc p.1 p.2) kvs=_
  rw[e,zEa (by simpa using h)]
  simp
theorem zTv {pos:Pos}{keys:List (Option Expr)}{values:List Expr}{kl:List Key}{ks:List D}{am:DS.AM}(h:DPs X K E pos keys values kl am) (hk:ks=kl.map keyD) (nd:kl.Nodup) (hall:keys.all (·.isSome)=true:=by rfl) (hl:keys.length=values.length:=by rfl) (h0:keys≠[]:=by intro z;cases z) (h15:keys.length<=15:=by decide) (hz:kl.length<=15:=by decide):
  DE X K E (.Dict keys values pos) (DS.zPc ks am):=by
 subst hk
 obtain⟨trs,hp,hq⟩:=h.ex
 refine⟨(zOm hp hall hl h0 h15).imp fun σ H Q ⟨env,S,J,ha,he,q⟩ p n=>hq σ _ _ ⟨env,S++[.dct false [] []],J++[p],ha.name (d:=.dct false [] []) n ⟨[],.inl ⟨rfl,[],rfl,rfl,rfl⟩,rfl⟩,he.grow (.name n),(Post.grow (Grow.name n) q).bind.imp fun vs S1 J1 H1 e1 a1 g1 q1 xs rx=>?_⟩⟩
 have ep:(J++[p])[S.length]?=some p:=by rw[<- ha.len,vw (xi _)];simp
 have ep1:=g1.pre _ _ ep
 have hlen:=h.len _ _ _ _ e1
 by_cases hc:S1[S.length]?=some (.dct false [] [])
 ·rw[xg hc]at q1
  obtain⟨o,eo,rc⟩:=a1.ob _ _ _ ep1 hc
  obtain⟨zs,t,_⟩:=rc
  have ho:o=.dK []:=by
   rcases t with⟨_,kvs,rfl,e,_⟩|⟨z,_⟩
   ·cases kvs with
    | nil=>rfl
    | cons a r=>cases e
   ·cases z
  subst ho
  have lx:kl.length=xs.length:=by rw[<- hlen];exact rx.length
  have m1:(kl.zip xs).map (·.1)=kl:=by rw[List.map_fst_zip (by nofun)]
  have m2:(kl.zip xs).map (·.2)=xs:=by rw[List.map_snd_zip (by nofun)]
  refine⟨eo,kl.zip xs,?_,?_,?_⟩
  ·rw[List.zip_map_left]
   rfl
  ·rw[List.length_zip];lia
  ·rw[zEa (by rw[uv,m1];exact nd),uv]
   refine q1 J1 _ (a1.write ep1 ⟨xs,.inl ⟨rfl,_,rfl,?_,m2.symm⟩,rx⟩) (.write ep1) (.ref p) ⟨p,ep1,rfl⟩
   rw[show kl.map keyD=((kl.zip xs).map (·.1)).map keyD by rw[m1],ue]
   rfl
 ·rw[xh hc]at q1;exact False.elim q1
end
end L2
namespace L2
theorem len0 {α:Type}:∀{l:List α},l.length=0->l=[]
 | [],_=>rfl
 | _::_,h=>nomatch h
theorem lenS {α:Type}{n:Nat}{l:List α}(h:l.length=n+1):∃a r,l=a::r/\r.length=n:=by
 cases l with
 | nil=>cases h
 | cons a r=>exact⟨a,r,rfl,Nat.succ.inj h⟩
theorem len1 {α:Type}{l:List α}(h:l.length=1):∃a,l=[a]:=by obtain⟨a,r,e,q⟩:=lenS h;exact⟨a,by rw[e,len0 q]⟩
theorem len2 {α:Type}{l:List α}(h:l.length=2):∃a b,l=[a,b]:=by obtain⟨a,r,e,q⟩:=lenS h;obtain⟨b,e2⟩:=len1 q;exact⟨a,b,by rw[e,e2]⟩
theorem len3 {α:Type}{l:List α}(h:l.length=3):∃a b c,l=[a,b,c]:=by obtain⟨a,r,e,q⟩:=lenS h;obtain⟨b,c,e2⟩:=len2 q;exact⟨a,b,c,by rw[e,e2]⟩
theorem len4 {α:Type}{l:List α}(h:l.length=4):∃a b c d,l=[a,b,c,d]:=by obtain⟨a,r,e,q⟩:=lenS h;obtain⟨b,c,d,e2⟩:=len3 q;exact⟨a,b,c,d,by rw[e,e2]⟩
theorem len5 {α:Type}{l:List α}(h:l.length=5):∃a b c d e,l=[a,b,c,d,e]:=by obtain⟨a,r,e1,q⟩:=lenS h;obtain⟨b,c,d,e,e2⟩:=len4 q;exact⟨a,b,c,d,e,by rw[e1,e2]⟩
end L2
namespace L2
open PySem PySem.Spec PyProof.Rows
open DS (D Store Exn Rs SR)
theorem zKi {K:PySem.W.Frag}{F:DS.Fn}{H:Hp}{a:Addr}{ns:List Int}{XX:XK}(h:∃S,F [.klst (ns.map D.int)] []=.ok (.bl true) S) (hS:SqL K H a (ns.map V.int)):spOf K XE0 F [.ref a] H (fun v _=>v=.bl true) XX:=by
 obtain⟨S,e⟩:=h
 refine⟨[],[],[.klst (ns.map D.int)],⟨rfl,uK,fun i a d e _=>by simp at e⟩,⟨.ref a,[],rfl,⟨a,ns.map V.int,rfl,?_,.ints⟩,rfl⟩,?_⟩
 ·rcases hS with h|h
  ·exact .inl ⟨h,by simp⟩
  ·exact .inr h
 ·rw[e]
  exact fun J' H' _ _ v r=>r
end L2
namespace TM
open PySem PyProof.Rows
noncomputable def dk:Keyed:=(Value.none,Value.none)
noncomputable def Cm (prog:Program) (w:World) (A:Around) (s:Shared) (κ:SortKind) (rk:Keyed->Nat) (Gd:Keyed->Prop):Prop:=
 ∀x y,Gd x->Gd y->∀(Q:Bool->Shared->Prop) (E':Value->Shared->Prop),Q (decide (rk x<rk y)) s->wpAny (model prog w) A (keyLt' κ x.1 y.1) Q E' s
structure SB (κ:SortKind) (a₀:Array Keyed) (st:SortSt):Prop where
 perm:(arrOf st).Perm a₀
 kind:kindOf st=κ
 failed:failedOf st=none
section
variable {κ:SortKind}{a₀:Array Keyed}{st:SortSt}{rk:Keyed->Nat}
theorem SB.size (h:SB κ a₀ st):(arrOf st).size=a₀.size:=h.perm.size_eq
theorem SB.set (h:SB κ a₀ st) {xs:Array Keyed}(hp:xs.Perm (arrOf st)):SB κ a₀ (setArr st xs):=⟨hp.trans h.perm,h.kind,h.failed⟩
noncomputable def ky (rk:Keyed->Nat) (xs:Array Keyed) (i:Nat):Nat:=rk (xs.getD i dk)
noncomputable def So (rk:Keyed->Nat) (xs:Array Keyed) (a b:Nat):Prop:=∀i j,a<=i->i<=j->j<b->ky rk xs i<=ky rk xs j
noncomputable def Fa (rk:Keyed->Nat) (xs:Array Keyed) (a b:Nat):Prop:=∀i j,a<=i->i<=j->j<b->ky rk xs j<=ky rk xs i
noncomputable def Out (a b:Nat) (xs ys:Array Keyed):Prop:=∀k,k<a\/b<=k->ys[k]?=xs[k]?
theorem Out.refl {a b:Nat}{xs:Array Keyed}:Out a b xs xs:=fun _ _=>rfl
theorem Out.trans {a b:Nat}{xs ys zs:Array Keyed}(h:Out a b xs ys) (h':Out a b ys zs):Out a b xs zs:=fun k hk=>(h' k hk).trans (h k hk)
theorem Out.mono {a b a' b':Nat}{xs ys:Array Keyed}(h:Out a b xs ys) (h1:a'<=a) (h2:b<=b'):Out a' b' xs ys:=fun k hk=>h k (by nofun)
theorem zM4 {xs ys:Array Keyed}{i j:Nat}(h:xs[i]?=ys[j]?):xs.getD i dk=ys.getD j dk:=by
 rw[vE,vE,h]
theorem zJ6 {xs ys:Array Keyed}{i j:Nat}(h:xs[i]?=ys[j]?):ky rk xs i=ky rk ys j:=by unfold ky;rw[zM4 h]
theorem Out.ky {a b k:Nat}{xs ys:Array Keyed}(h:Out a b xs ys) (hk:k<a\/b<=k):TM.ky rk ys k=TM.ky rk xs k:=zJ6 (h k hk)
theorem So.out {a b c d:Nat}{xs ys:Array Keyed}(h:So rk xs c d) (o:Out a b xs ys) (hd:d<=a\/b<=c):So rk ys c d:=fun i j h1 h2 h3=>by
 rw[o.ky (by nofun),o.ky (by nofun)];exact h i j h1 h2 h3
theorem zLp {xs:Array Keyed}{i j:Nat}(hj:j<=xs.size) (k:Nat):ky rk (mirror xs i j ((j-i) / 2)) k=if i<=k/\k<j then ky rk xs (i+j-1-k)else ky rk xs k:=by
 have e:=getElem?_mirror_all (i:=i) hj k
 split at e <;> rename_i h1
 ·rw[xg h1];exact zJ6 e
 ·rw[xh h1];exact zJ6 e
theorem zBr {xs:Array Keyed}{i j:Nat}(hj:j<=xs.size) (he:∀k,i<=k->k<j->ky rk xs k=ky rk xs (j-1)) (k:Nat):ky rk (mirror xs i j ((j-i) / 2)) k=ky rk xs k:=by
 rw[zLp hj]
 split
 ·rw[he _ (by nofun) (by nofun),he k (by nofun) (by nofun)]
 ·rfl
theorem zS5 {xs:Array Keyed}{i j:Nat}(hj:j<=xs.size):Out i j xs (mirror xs i j ((j-i) / 2)):=fun k hk=>by
 rw[getElem?_mirror_all hj,xh (by nofun)]
theorem zQb {xs:Array Keyed}{src d:Nat}(hs:src<xs.size) (hd:d<=src) (k:Nat):ky rk (bubble xs src d) k=if k=src-d then ky rk xs src else if src-d<k/\k<=src then ky rk xs (k-1)else ky rk xs k:=by
 have e:=getElem?_bubble hs d hd k
 split at e <;> rename_i h1
 ·rw[xg h1];exact zJ6 e
 ·rw[xh h1]
  split at e <;> rename_i h2
  ·rw[xg h2];exact zJ6 e
  ·rw[xh h2];exact zJ6 e
theorem zS6 {xs:Array Keyed}{src d:Nat}(hs:src<xs.size) (hd:d<=src):Out (src-d) (src+1) xs (bubble xs src d):=fun k hk=>by
 rw[getElem?_bubble hs d hd,xh (by nofun),xh (by nofun)]
end
section
variable {prog:Program}{w:World}{A:Around}{E:Value->Shared->Prop}{s:Shared}{κ:SortKind}{a₀:Array Keyed}{rk:Keyed->Nat}{Gd:Keyed->Prop}
theorem zU4 {xs:Array Keyed}(hp:xs.Perm a₀) (hg:∀x∈a₀,Gd x) {i:Nat}(hi:i<a₀.size):xs[i]?=some (xs.getD i dk)/\Gd (xs.getD i dk):=by
 have hi':i<xs.size:=by rw[hp.size_eq];exact hi
 have e:xs.getD i dk=xs[i]:=by simp[Array.getD,hi']
 refine⟨by rw[e];exact getElem?_pos _ i hi',?_⟩
 rw[e]
 exact hg _ (hp.mem_iff.mp (Array.getElem_mem hi'))
theorem w_lt (C:Cm prog w A s κ rk Gd) {st:SortSt}{x y:Keyed}{Q:Option Bool->SortSt->Prop}(hk:kindOf st=κ) (hx:Gd x) (hy:Gd y) (h:Q (some (decide (rk x<rk y))) st):wpS (model prog w) A E s (lt' x y) Q st:=by
 rw[lt'_eq]
 refine xj (wpS_get ?_)
 rw[hk]
 exact xj (wpS_lift (wpAny_attempt (C x y hx hy _ _ ⟨rfl,xk h⟩)))
theorem zAg {st:SortSt}{xs:Array Keyed}{i:Nat}{x:Keyed}{Q:Keyed->SortSt->Prop}(e:xs[i]?=some x) (h:Q x st):wpS (model prog w) A E s (elem' xs i) Q st:=by
 rw[elem'_eq,e];exact xk h
theorem w_at (C:Cm prog w A s κ rk Gd) (hg:∀x∈a₀,Gd x) {st:SortSt}{i j:Nat}{Q:Option Bool->SortSt->Prop}(B:SB κ a₀ st) (hi:i<a₀.size) (hj:j<a₀.size)
  (h:Q (some (decide (ky rk (arrOf st) i<ky rk (arrOf st) j))) st):wpS (model prog w) A E s (ltAt' i j) Q st:=by
 obtain⟨e1,g1⟩:=zU4 B.perm hg hi
 obtain⟨e2,g2⟩:=zU4 B.perm hg hj
 rw[ltAt'_eq]
 refine xj (wpS_get ?_)
 exact xj (zAg e1 (xj (zAg e2 (w_lt C B.kind g1 g2 h))))
noncomputable def ascL (lo a nrem:Nat):StateT SortSt Sem AscSt:=forIn [a:nrem] ((none,a):AscSt) fun _ z=>do
 let x <- ltAt' (lo+z.snd) (lo+z.snd-1)
 match x with
 | some smaller=>if smaller=true then pure (ForInStep.done (none,z.snd))else pure (ForInStep.yield (none,z.snd+1))
 | _=>pure (ForInStep.done (some none,z.snd))
noncomputable def zK4 (lo n nrem:Nat):StateT SortSt Sem (Option Nat):=do
 reverseSlice' lo (lo+n)
 let z <- ascL lo n nrem
 match z.fst with
 | some r=>pure r
 | none=>pure (some z.snd)
noncomputable def zPk (lo n nrem:Nat):StateT SortSt Sem DescSt:=forIn [n:nrem] ((none,n,0):DescSt) fun _ z=>do
 let x <- ltAt' (lo+z.snd.fst) (lo+z.snd.fst-1)
 match x with
 | some smaller=>
  if smaller=true then
   if z.snd.snd > 0 then do
    reverseSlice' (lo+z.snd.fst-(z.snd.snd+1)) (lo+z.snd.fst)
    pure (ForInStep.yield (none,z.snd.fst+1,0))
   else pure (ForInStep.yield (none,z.snd.fst+1,0))
  else do
   let x <- ltAt' (lo+z.snd.fst-1) (lo+z.snd.fst)
   match x with
   | some larger=>if larger=true then pure (ForInStep.done (none,z.snd.fst,z.snd.snd))else pure (ForInStep.yield (none,z.snd.fst+1,z.snd.snd+1))
   | _=>pure (ForInStep.done (some none,z.snd.fst,z.snd.snd))
 | _=>pure (ForInStep.done (some none,z.snd.fst,z.snd.snd))
noncomputable def zL5 (lo n nrem:Nat):StateT SortSt Sem (Option Nat):=do
 liftM (rule "list.sort.descending-run")
 let z <- zPk lo (n+1) nrem
 match z.fst with
 | some r=>pure r
 | none=>
  if z.snd.snd > 0 then do
   reverseSlice' (lo+z.snd.fst-(z.snd.snd+1)) (lo+z.snd.fst)
   zK4 lo z.snd.fst nrem
  else zK4 lo z.snd.fst nrem
theorem count_eq (lo nrem:Nat):countRun' lo nrem=(do
  let z <- ascL lo 1 nrem
  match z.fst with
  | some r=>pure r
  | none=>
   if(z.snd == nrem)=true then pure (some z.snd)
   else if z.snd > 1 then do
    let x <- ltAt' lo (lo+z.snd-1)
    match x with
    | some rose=>if rose=true then pure (some z.snd)else do
      reverseSlice' lo (lo+z.snd)
      zL5 lo z.snd nrem
    | _=>pure none
   else zL5 lo z.snd nrem):=by
 rw[countRun'_eq]
 unfold zL5 zK4 zPk ascL
 refine congrArg (Bind.bind _) ?_
 funext z
 obtain⟨r,n⟩:=z
 cases r with
 | some r=>rfl
 | none=>
  dsimp only
  split
  ·rfl
  ·split
   ·congr 1;funext x
    cases x with
    | none=>rfl
    | some rose=>
     dsimp only
     split
     ·rfl
     ·congr 1;funext _r
      congr 1;funext _u;congr 1;congr 1;funext s2;obtain⟨r2,n2,q2⟩:=s2
      cases r2 with
      | some r2=>rfl
      | none=>
       dsimp only
       split
       ·congr 1;funext _v;congr 1;funext _w;congr 1;funext s3;obtain⟨r3,n3⟩:=s3;cases r3 <;> rfl
       ·congr 1;funext _w;congr 1;funext s3;obtain⟨r3,n3⟩:=s3;cases r3 <;> rfl
   ·congr 1;funext _u;congr 1;congr 1;funext s2;obtain⟨r2,n2,q2⟩:=s2
    cases r2 with
    | some r2=>rfl
    | none=>
     dsimp only
     split
     ·congr 1;funext _v;congr 1;funext _w;congr 1;funext s3;obtain⟨r3,n3⟩:=s3;cases r3 <;> rfl
     ·congr 1;funext _w;congr 1;funext s3;obtain⟨r3,n3⟩:=s3;cases r3 <;> rfl
structure Ran (κ:SortKind) (a₀:Array Keyed) (lo hi:Nat) (st st':SortSt):Prop where
 b:SB κ a₀ st'
 pend:pendingOf st'=pendingOf st
 out:Out lo hi (arrOf st) (arrOf st')
theorem Ran.refl {lo hi:Nat}{st:SortSt}(B:SB κ a₀ st):Ran κ a₀ lo hi st st:=⟨B,rfl,.refl⟩
theorem Ran.trans {lo hi:Nat}{st st1 st2:SortSt}(a:Ran κ a₀ lo hi st st1) (b:Ran κ a₀ lo hi st1 st2):Ran κ a₀ lo hi st st2:=⟨b.b,b.pend.trans a.pend,a.out.trans b.out⟩
theorem Ran.mono {lo hi lo' hi':Nat}{st st1:SortSt}(a:Ran κ a₀ lo hi st st1) (h1:lo'<=lo) (h2:hi<=hi'):Ran κ a₀ lo' hi' st st1:=⟨a.b,a.pend,a.out.mono h1 h2⟩
theorem w_rev {st:SortSt}{i j:Nat}{Q:Unit->SortSt->Prop}(h:Q () (setArr st (mirror (arrOf st) i j ((j-i) / 2)))):wpS (model prog w) A E s (reverseSlice' i j) Q st:=by
 rw[reverseSlice'_eq];exact vv h
theorem zEz {st:SortSt}{i j:Nat}(B:SB κ a₀ st) (hj:j<=a₀.size):Ran κ a₀ i j st (setArr st (mirror (arrOf st) i j ((j-i) / 2))):=⟨B.set (mirror_perm _ _ _ _),rfl,zS5 (by rw[B.size];exact hj)⟩
theorem zUb (C:Cm prog w A s κ rk Gd) (hg:∀x∈a₀,Gd x) {st:SortSt}{lo a nrem:Nat}{Q:AscSt->SortSt->Prop}(hn:lo+nrem<=a₀.size) (ha:1<=a) (han:a<=nrem) (B:SB κ a₀ st) (hs:So rk (arrOf st) lo (lo+a))
  (h:∀n,a<=n->n<=nrem->So rk (arrOf st) lo (lo+n)->(n=nrem\/ky rk (arrOf st) (lo+n)<ky rk (arrOf st) (lo+n-1))->Q (none,n) st):wpS (model prog w) A E s (ascL lo a nrem) Q st:=by
 unfold ascL
 refine xU (I:=fun x c st'=>st'=st/\c=(none,x)/\So rk (arrOf st) lo (lo+x)) ?step ?fin ⟨rfl,rfl,hs⟩
 case fin=>
  rintro c st' ⟨rfl,rfl,hs'⟩
  rw[show max a nrem=nrem by nofun]at hs' ⊢
  exact h nrem han (xi _) hs' (.inl rfl)
 case step=>
  rintro x c st' hax hxn ⟨rfl,rfl,hs'⟩
  dsimp only
  refine xj (w_at C hg B (by nofun) (by nofun) ?_)
  by_cases q:ky rk (arrOf st') (lo+x)<ky rk (arrOf st') (lo+x-1)
  ·rw[xB q]
   exact xk (h x hax (by nofun) hs' (.inr q))
  ·rw[xy q]
   refine xk ⟨rfl,rfl,fun i j h1 hij hj=>?_⟩
   by_cases hjx:j<lo+x
   ·exact hs' i j h1 hij hjx
   ·obtain rfl:j=lo+x:=by nofun
    by_cases hi':i=lo+x
    ·rw[hi'];exact xi _
    ·exact xp (hs' i (lo+x-1) h1 (by nofun) (by nofun)) (Nat.not_lt.mp q)
theorem zPq (C:Cm prog w A s κ rk Gd) (hg:∀x∈a₀,Gd x) {st:SortSt}{lo n nrem:Nat}{Q:Option Nat->SortSt->Prop}(hn:lo+nrem<=a₀.size) (h1:1<=n) (hnn:n<=nrem) (B:SB κ a₀ st) (hs:Fa rk (arrOf st) lo (lo+n))
  (h:∀m st',Ran κ a₀ lo (lo+nrem) st st'->1<=m->m<=nrem->So rk (arrOf st') lo (lo+m)->Q (some m) st'):wpS (model prog w) A E s (zK4 lo n nrem) Q st:=by
 unfold zK4
 have R:=zEz (i:=lo) (j:=lo+n) B (by nofun)
 have hsz:lo+n<=(arrOf st).size:=by rw[B.size];lia
 refine xj (w_rev (xj (zUb C hg hn h1 hnn R.b ?_ fun m hm1 hm2 hsm _=>xk (h m _ (R.mono (xi _) (by nofun)) (by nofun) hm2 hsm))))
 intro i j h0 hij hj
 show ky rk (mirror (arrOf st) lo (lo+n) ((lo+n-lo) / 2)) i<=ky rk (mirror (arrOf st) lo (lo+n) ((lo+n-lo) / 2)) j
 rw[zLp hsz,zLp hsz,xg (by nofun),xg (by nofun)]
 exact hs _ _ (by nofun) (by nofun) (by nofun)
theorem zUa (C:Cm prog w A s κ rk Gd) (hg:∀x∈a₀,Gd x) {st:SortSt}{lo n nrem:Nat}{Q:DescSt->SortSt->Prop}(hn:lo+nrem<=a₀.size) (h1:1<=n) (hnn:n<=nrem) (B:SB κ a₀ st) (hs:Fa rk (arrOf st) lo (lo+n))
  (h:∀m neq st',Ran κ a₀ lo (lo+nrem) st st'->n<=m->m<=nrem->Fa rk (arrOf st') lo (lo+m)->neq+1<=m->(∀i,lo+m-(neq+1)<=i->i<lo+m->ky rk (arrOf st') i=ky rk (arrOf st') (lo+m-1))->Q (none,m,neq) st'):
  wpS (model prog w) A E s (zPk lo n nrem) Q st:=by
 unfold zPk
 refine xU (I:=fun x c st'=>∃neq,c=(none,x,neq)/\Ran κ a₀ lo (lo+nrem) st st'/\Fa rk (arrOf st') lo (lo+x)/\neq+1<=x/\(∀i,lo+x-(neq+1)<=i->i<lo+x->ky rk (arrOf st') i=ky rk (arrOf st') (lo+x-1))) ?step ?fin
  ⟨0,rfl,.refl B,hs,by nofun,fun i h1 h2=>by congr 1;lia⟩
 case fin=>
  rintro c st' ⟨neq,rfl,R,hs',hq,he⟩
  rw[show max n nrem=nrem by nofun]at hs' hq he ⊢
  exact h nrem neq st' R hnn (xi _) hs' hq he
 case step=>
  rintro x c st' hax hxn ⟨neq,rfl,R,hs',hq,he⟩
  dsimp only
  have hsz:lo+x<=(arrOf st').size:=by rw[R.b.size];lia
  refine xj (w_at C hg R.b (by nofun) (by nofun) ?_)
  by_cases q:ky rk (arrOf st') (lo+x)<ky rk (arrOf st') (lo+x-1)
  ·rw[xB q]
   simp only[xo]
   have st1:∀xs:Array Keyed,(∀k,ky rk xs k=ky rk (arrOf st') k)->Fa rk xs lo (lo+(x+1)):=fun xs hk i j h0 hij hj=>by
    rw[hk,hk]
    by_cases hjx:j<lo+x
    ·exact hs' i j h0 hij hjx
    ·obtain rfl:j=lo+x:=by nofun
     by_cases hi':i=lo+x
     ·rw[hi'];exact xi _
     ·exact xp (xN q) (hs' i (lo+x-1) h0 (by nofun) (by nofun))
   by_cases hneq:neq > 0
   ·rw[xg hneq]
    have R2:=zEz (i:=lo+x-(neq+1)) (j:=lo+x) R.b (by nofun)
    exact xj (w_rev (xk ⟨0,rfl,R.trans (R2.mono (by nofun) (by nofun)),st1 _ (zBr hsz he),by nofun,fun i h1 h2=>by congr 1;lia⟩))
   ·rw[xh hneq]
    exact xk ⟨0,rfl,R,st1 _ (fun _=>rfl),by nofun,fun i h1 h2=>by congr 1;lia⟩
  ·rw[xy q]
   simp only[vi,xQ]
   refine xj (w_at C hg R.b (by nofun) (by nofun) ?_)
   by_cases ql:ky rk (arrOf st') (lo+x-1)<ky rk (arrOf st') (lo+x)
   ·rw[xB ql]
    exact xk (h x neq st' R hax (by nofun) hs' hq he)
   ·rw[xy ql]
    have ex:ky rk (arrOf st') (lo+x)=ky rk (arrOf st') (lo+x-1):=by nofun
    refine xk ⟨neq+1,rfl,R,fun i j h0 hij hj=>?_,by nofun,fun i h1 h2=>?_⟩
    ·by_cases hjx:j<lo+x
     ·exact hs' i j h0 hij hjx
     ·obtain rfl:j=lo+x:=by nofun
      by_cases hi':i=lo+x
      ·rw[hi'];exact xi _
      ·rw[ex];exact hs' i (lo+x-1) h0 (by nofun) (by nofun)
    ·rw[show lo+(x+1)-1=lo+x by nofun]
     by_cases hix:i=lo+x
     ·rw[hix]
     ·rw[ex];exact he i (by nofun) (by nofun)
theorem zPr (C:Cm prog w A s κ rk Gd) (hg:∀x∈a₀,Gd x) {st:SortSt}{lo n nrem:Nat}{Q:Option Nat->SortSt->Prop}(hn:lo+nrem<=a₀.size) (hnn:n+1<=nrem) (B:SB κ a₀ st) (hs:Fa rk (arrOf st) lo (lo+(n+1)))
  (h:∀m st',Ran κ a₀ lo (lo+nrem) st st'->1<=m->m<=nrem->So rk (arrOf st') lo (lo+m)->Q (some m) st'):wpS (model prog w) A E s (zL5 lo n nrem) Q st:=by
 unfold zL5
 refine xj (wpS_lift (xX ⟨rfl,xj (zUa C hg hn (by nofun) hnn B hs fun m neq st' R hm1 hm2 hs' hq he=>?_)⟩))
 dsimp only
 have hsz:lo+m<=(arrOf st').size:=by rw[R.b.size];lia
 by_cases hneq:neq > 0
 ·rw[xg hneq]
  have R2:=zEz (i:=lo+m-(neq+1)) (j:=lo+m) R.b (by nofun)
  refine xj (w_rev (zPq C hg hn (by nofun) hm2 R2.b (fun i j h0 hij hj=>?_) fun m' st'' R3 a1 a2 a3=>h m' st'' ((R.trans (R2.mono (by nofun) (by nofun))).trans R3) a1 a2 a3))
  show ky rk (mirror (arrOf st') _ _ _) j<=ky rk (mirror (arrOf st') _ _ _) i
  rw[zBr hsz he,zBr hsz he]
  exact hs' i j h0 hij hj
 ·rw[xh hneq]
  exact zPq C hg hn (by nofun) hm2 R.b hs' fun m' st'' R3 a1 a2 a3=>h m' st'' (R.trans R3) a1 a2 a3
theorem w_count (C:Cm prog w A s κ rk Gd) (hg:∀x∈a₀,Gd x) {st:SortSt}{lo nrem:Nat}{Q:Option Nat->SortSt->Prop}(hn:lo+nrem<=a₀.size) (h1:1<=nrem) (B:SB κ a₀ st)
  (h:∀m st',Ran κ a₀ lo (lo+nrem) st st'->1<=m->m<=nrem->So rk (arrOf st') lo (lo+m)->Q (some m) st'):wpS (model prog w) A E s (countRun' lo nrem) Q st:=by
 rw[count_eq]
 refine xj (zUb C hg hn (xi 1) h1 B (fun i j h0 hij hj=>Nat.le_of_eq (congrArg _ (show i=j by nofun))) fun n hn1 hn2 hsn hor=>?_)
 dsimp only
 by_cases hnn:n=nrem
 ·rw[xg (by simpa using hnn)]
  exact xk (h n st (.refl B) hn1 hn2 hsn)
 ·rw[xh (by simpa using hnn)]
  have hlt:=hor.resolve_left hnn
  by_cases hgt:n > 1
  ·rw[xg hgt]
   refine xj (w_at C hg B (by nofun) (by nofun) ?_)
   by_cases hr:ky rk (arrOf st) lo<ky rk (arrOf st) (lo+n-1)
   ·rw[xB hr]
    exact xk (h n st (.refl B) hn1 hn2 hsn)
   ·rw[xy hr]
    have hsz:lo+n<=(arrOf st).size:=by rw[B.size];lia
    have hall:∀k,lo<=k->k<lo+n->ky rk (arrOf st) k=ky rk (arrOf st) (lo+n-1):=fun k hk0 hk=>by
     have a1:=hsn lo k (xi _) hk0 hk
     have a2:=hsn k (lo+n-1) hk0 (by nofun) (by nofun)
     lia
    have R2:=zEz (i:=lo) (j:=lo+n) B (by nofun)
    refine xj (w_rev (zPr C hg hn (by nofun) R2.b (fun i j h0 hij hj=>?_) fun m' st'' R3 a1 a2 a3=>h m' st'' ((R2.mono (xi _) (by nofun)).trans R3) a1 a2 a3))
    show ky rk (mirror (arrOf st) _ _ _) j<=ky rk (mirror (arrOf st) _ _ _) i
    rw[zBr hsz hall,zBr hsz hall]
    by_cases hjn:j<lo+n
    ·rw[hall i (by nofun) (by nofun),hall j (by nofun) hjn];exact xi _
    ·obtain rfl:j=lo+n:=by nofun
     by_cases hi':i=lo+n
     ·rw[hi'];exact xi _
     ·rw[hall i (by nofun) (by nofun)];exact xN hlt
  ·rw[xh hgt]
   obtain rfl:n=1:=by nofun
   refine zPr C hg hn (by nofun) B (fun i j h0 hij hj=>?_) h
   by_cases hi':i=j
   ·rw[hi'];exact xi _
   ·obtain rfl:i=lo:=by nofun
    obtain rfl:j=i+1:=by nofun
    exact xN hlt
end
end TM
namespace TM
open PySem PyProof.Rows
section
variable {prog:Program}{w:World}{A:Around}{E:Value->Shared->Prop}{s:Shared}{κ:SortKind}{a₀:Array Keyed}{rk:Keyed->Nat}{Gd:Keyed->Prop}
theorem zY1 (C:Cm prog w A s κ rk Gd) (hg:∀x∈a₀,Gd x) {st:SortSt}{lo n ok:Nat}{Q:Bool->SortSt->Prop}(hn:lo+n<=a₀.size) (hok:ok<=n) (B:SB κ a₀ st) (hs:So rk (arrOf st) lo (lo+ok))
  (h:∀st',Ran κ a₀ lo (lo+n) st st'->So rk (arrOf st') lo (lo+n)->Q true st'):wpS (model prog w) A E s (binarySort' lo n ok) Q st:=by
 rw[binarySort'_eq]
 refine xj (vm (xU (I:=fun k c st'=>c=(none,())/\Ran κ a₀ lo (lo+n) st st'/\So rk (arrOf st') lo (lo+min k n)) (Q:=fun c st'=>c=(none,())/\Ran κ a₀ lo (lo+n) st st'/\So rk (arrOf st') lo (lo+n)) ?step ?fin ?init) ?post)
 case post=>
  rintro c st' ⟨rfl,R,hs'⟩
  exact xk (h st' R hs')
 case init=>
  refine⟨rfl,.refl B,fun i j h0 hij hj=>?_⟩
  by_cases h1:ok=0
  ·exact Nat.le_of_eq (congrArg _ (show i=j by nofun))
  ·exact hs i j h0 hij (by nofun)
 case fin=>
  rintro c st' ⟨hc,R,hs'⟩
  rw[show min (max (max ok 1) n) n=n by nofun]at hs'
  exact⟨hc,R,hs'⟩
 case step=>
  rintro k c st' hak hkn ⟨rfl,R,hs'⟩
  rw[show min k n=k by nofun]at hs'
  have hk:lo+k<a₀.size:=by nofun
  refine xj (vm (xU (I:=fun x c st''=>st''=st'/\∃l r,c=(none,l,r)/\l<=r/\r<=k/\r-l<=k-x/\(∀i,i<l->ky rk (arrOf st') (lo+i)<=ky rk (arrOf st') (lo+k))/\(∀i,r<=i->i<k->ky rk (arrOf st') (lo+k)<ky rk (arrOf st') (lo+i)))
   (Q:=fun c st''=>st''=st'/\∃l r,c=(none,l,r)/\l<=k/\(∀i,i<l->ky rk (arrOf st') (lo+i)<=ky rk (arrOf st') (lo+k))/\(∀i,l<=i->i<k->ky rk (arrOf st') (lo+k)<ky rk (arrOf st') (lo+i))) ?istep ?ifin ?iinit) ?ipost)
  case iinit=>exact⟨rfl,0,k,rfl,by nofun,by nofun,by nofun,fun i hi=>by nofun,fun i h1 h2=>by nofun⟩
  case ifin=>
   rintro c st'' ⟨rfl,l,r,rfl,hlr,hrk,hm,hlo,hhi⟩
   obtain rfl:l=r:=by nofun
   exact⟨rfl,l,l,rfl,hrk,hlo,hhi⟩
  case istep=>
   rintro x c st'' _ hxk ⟨rfl,l,r,rfl,hlr,hrk,hm,hlo,hhi⟩
   dsimp only
   by_cases hge:l >= r
   ·rw[xg hge]
    obtain rfl:l=r:=by nofun
    exact xk ⟨rfl,l,l,rfl,hrk,hlo,hhi⟩
   ·rw[xh hge]
    refine xj (w_at C hg R.b hk (by nofun) ?_)
    by_cases q:ky rk (arrOf st'') (lo+k)<ky rk (arrOf st'') (lo+(l+r) / 2)
    ·rw[xB q]
     exact xk ⟨rfl,l,(l+r) / 2,rfl,by nofun,by nofun,by nofun,hlo,fun i h1 h2=>xE q (hs' _ _ (by nofun) (by nofun) (by nofun))⟩
    ·rw[xy q]
     exact xk ⟨rfl,(l+r) / 2+1,r,rfl,by nofun,by nofun,by nofun,fun i h1=>xp (hs' (lo+i) (lo+(l+r) / 2) (by nofun) (by nofun) (by nofun)) (Nat.not_lt.mp q),hhi⟩
  case ipost=>
   rintro c st'' ⟨rfl,l,r,rfl,hlk,hlo,hhi⟩
   show wpS _ _ _ _ (do moveDown' (lo+k) (lo+l);pure (ForInStep.yield (none,()))) _ _
   rw[moveDown'_eq]
   have hks:lo+k<(arrOf st'').size:=by rw[R.b.size];exact hk
   have ob:=zS6 (d:=lo+k-(lo+l)) hks (by nofun)
   refine xj (vv (xk ⟨rfl,R.trans ⟨R.b.set (bubble_perm _ _ _),rfl,ob.mono (by nofun) (by nofun)⟩,?_⟩))
   rw[show min (k+1) n=k+1 by nofun]
   intro i j h0 hij hj
   show ky rk (bubble (arrOf st'') (lo+k) (lo+k-(lo+l))) i<=ky rk (bubble (arrOf st'') (lo+k) (lo+k-(lo+l))) j
   rw[zQb hks (by nofun),zQb hks (by nofun),show lo+k-(lo+k-(lo+l))=lo+l by nofun]
   have lo':∀i,lo<=i->i<lo+l->ky rk (arrOf st'') i<=ky rk (arrOf st'') (lo+k):=fun i h1 h2=>by
    have:=hlo (i-lo) (by nofun)
    rwa[show lo+(i-lo)=i by nofun]at this
   have hi':∀i,lo+l<=i->i<lo+k->ky rk (arrOf st'') (lo+k)<=ky rk (arrOf st'') i:=fun i h1 h2=>by
    have:=hhi (i-lo) (by nofun) (by nofun)
    rw[show lo+(i-lo)=i by nofun]at this
    exact xN this
   repeat' split
   all_goals first
    | (exfalso;lia)
    | exact xi _
    | exact lo' _ (by nofun) (by nofun)
    | exact hi' _ (by nofun) (by nofun)
    | exact hs' _ _ (by nofun) (by nofun) (by nofun)
noncomputable def gallop':Bool->Keyed->Array Keyed->Nat->Nat->Nat->StateT SortSt Sem (Option Nat):=sortPriv% PySem.Builtin.gallop
noncomputable def bey (left:Bool) (key:Keyed) (arr:Array Keyed) (base i:Nat):StateT SortSt Sem (Option Bool):=do
 let x <- elem' arr (base+i)
 if left then lt' x key else return (<- lt' key x).map (!·)
theorem zJc (left:Bool) (key:Keyed) (arr:Array Keyed) (base n hint:Nat):gallop' left key arr base n hint=(do
 let mut lastofs:=0
 let mut ofs:=1
 let mut lo:=0
 let mut hi:=0
 let some right <- bey left key arr base hint|return none
 if right then
  let maxofs:=n-hint
  for _ in [0:n] do
   if ofs >= maxofs then break
   let some more <- bey left key arr base (hint+ofs)|return none
   if !more then break
   lastofs:=ofs
   ofs:=2*ofs+1
  lo:=hint+lastofs+1
  hi:=hint+min ofs maxofs
 else
  let maxofs:=hint+1
  for _ in [0:n] do
   if ofs >= maxofs then break
   let some found <- bey left key arr base (hint-ofs)|return none
   if found then break
   lastofs:=ofs
   ofs:=2*ofs+1
  lo:=hint+1-min ofs maxofs
  hi:=hint-lastofs
 for _ in [0:n] do
  if lo >= hi then break
  let m:=lo+(hi-lo) / 2
  let some more <- bey left key arr base m|return none
  if more then lo:=m+1 else hi:=m
 return some hi):=rfl
noncomputable def Ah (rk:Keyed->Nat) (left:Bool) (key:Keyed) (arr:Array Keyed) (base i:Nat):Bool:=if left then decide (ky rk arr (base+i)<rk key)else !decide (rk key<ky rk arr (base+i))
theorem zNf (C:Cm prog w A s κ rk Gd) {st:SortSt}{left:Bool}{key:Keyed}{arr:Array Keyed}{base i:Nat}{Q:Option Bool->SortSt->Prop}(hk:kindOf st=κ) (e:arr[base+i]?=some (arr.getD (base+i) dk)) (g:Gd (arr.getD (base+i) dk)) (gk:Gd key)
  (h:Q (some (Ah rk left key arr base i)) st):wpS (model prog w) A E s (bey left key arr base i) Q st:=by
 unfold bey
 refine xj (zAg e ?_)
 cases left with
 | true=>exact w_lt C hk g gk h
 | false=>exact xj (w_lt C hk gk g (xk h))
theorem w_bs (C:Cm prog w A s κ rk Gd) {st:SortSt}{left:Bool}{key:Keyed}{arr:Array Keyed}{base n lo hi:Nat}{Q:Option (Option Nat) × Nat × Nat->SortSt->Prop}(hk:kindOf st=κ) (gk:Gd key) (hg:∀i,i<n->arr[base+i]?=some (arr.getD (base+i) dk)/\Gd (arr.getD (base+i) dk))
  (mono:∀i j,i<=j->j<n->Ah rk left key arr base j=true->Ah rk left key arr base i=true) (hn:hi<=n) (hl:lo<=hi) (h1:∀i,i<lo->Ah rk left key arr base i=true) (h2:∀i,hi<=i->i<n->Ah rk left key arr base i=false)
  (h:∀k,k<=n->(∀i,i<k->Ah rk left key arr base i=true)->(∀i,k<=i->i<n->Ah rk left key arr base i=false)->Q (none,k,k) st):
  wpS (model prog w) A E s (forIn [0:n] ((none,lo,hi):Option (Option Nat) × Nat × Nat) fun _ z=>
    if z.snd.fst >= z.snd.snd then pure (ForInStep.done (none,z.snd.fst,z.snd.snd))
    else do
     let x <- bey left key arr base (z.snd.fst+(z.snd.snd-z.snd.fst) / 2)
     match x with
     | some more=>if more=true then pure (ForInStep.yield (none,z.snd.fst+(z.snd.snd-z.snd.fst) / 2+1,z.snd.snd))else pure (ForInStep.yield (none,z.snd.fst,z.snd.fst+(z.snd.snd-z.snd.fst) / 2))
     | x=>pure (ForInStep.done (some none,z.snd.fst,z.snd.snd))) Q st:=by
 refine(vm (xU (I:=fun x c st'=>st'=st/\∃l r,c=(none,l,r)/\l<=r/\r<=n/\r-l<=n-x/\(∀i,i<l->Ah rk left key arr base i=true)/\(∀i,r<=i->i<n->Ah rk left key arr base i=false))
  (Q:=fun c st'=>st'=st/\∃k,c=(none,k,k)/\k<=n/\(∀i,i<k->Ah rk left key arr base i=true)/\(∀i,k<=i->i<n->Ah rk left key arr base i=false)) ?step ?fin ⟨rfl,lo,hi,rfl,hl,hn,by nofun,h1,h2⟩) ?post)
 case post=>
  rintro c st' ⟨rfl,k,rfl,a1,a2,a3⟩
  exact h k a1 a2 a3
 case fin=>
  rintro c st' ⟨rfl,l,r,rfl,a1,a2,a3,a4,a5⟩
  obtain rfl:l=r:=by nofun
  exact⟨rfl,l,rfl,a2,a4,a5⟩
 case step=>
  rintro x c st' _ hx ⟨rfl,l,r,rfl,a1,a2,a3,a4,a5⟩
  dsimp only
  by_cases hge:l >= r
  ·rw[xg hge]
   obtain rfl:l=r:=by nofun
   exact xk ⟨rfl,l,rfl,a2,a4,a5⟩
  ·rw[xh hge]
   obtain⟨e,g⟩:=hg (l+(r-l) / 2) (by nofun)
   refine xj (zNf C hk e g gk ?_)
   cases q:Ah rk left key arr base (l+(r-l) / 2)with
   | true=>exact xk ⟨rfl,l+(r-l) / 2+1,r,rfl,by nofun,a2,by nofun,fun i hi=>mono i (l+(r-l) / 2) (by nofun) (by nofun) q,a5⟩
   | false=>
    refine xk ⟨rfl,l,l+(r-l) / 2,rfl,by nofun,by nofun,by nofun,a4,fun i b1 b2=>?_⟩
    cases q2:Ah rk left key arr base i with
    | false=>rfl
    | true=>rw[mono _ i b1 b2 q2]at q;cases q
theorem zIx (C:Cm prog w A s κ rk Gd) {st:SortSt}{left:Bool}{key:Keyed}{arr:Array Keyed}{base n hint:Nat}{Q:Option Nat->SortSt->Prop}(hk:kindOf st=κ) (gk:Gd key) (hg:∀i,i<n->arr[base+i]?=some (arr.getD (base+i) dk)/\Gd (arr.getD (base+i) dk))
  (hs:So rk arr base (base+n)) (hh:hint<n) (h:∀k,k<=n->(∀i,i<k->Ah rk left key arr base i=true)->(∀i,k<=i->i<n->Ah rk left key arr base i=false)->Q (some k) st):
  wpS (model prog w) A E s (gallop' left key arr base n hint) Q st:=by
 have mono:∀i j,i<=j->j<n->Ah rk left key arr base j=true->Ah rk left key arr base i=true:=fun i j hij hj q=>by
  have:=hs (base+i) (base+j) (by nofun) (by nofun) (by nofun)
  unfold Ah at q ⊢
  cases left with
  | true=>simp at q ⊢;lia
  | false=>simp at q ⊢;lia
 have mono':∀i j,i<=j->j<n->Ah rk left key arr base i=false->Ah rk left key arr base j=false:=fun i j hij hj q=>by
  cases q2:Ah rk left key arr base j with
  | false=>rfl
  | true=>rw[mono i j hij hj q2]at q;cases q
 rw[zJc]
 obtain⟨e0,g0⟩:=hg hint hh
 refine xj (zNf C hk e0 g0 gk ?_)
 dsimp only
 cases q0:Ah rk left key arr base hint with
 | true=>
  rw[xg rfl]
  refine xj (vm (xU (I:=fun x c st'=>st'=st/\∃l o,c=(none,l,o)/\l<o/\x<o/\hint+l<n/\Ah rk left key arr base (hint+l)=true)
   (Q:=fun c st'=>st'=st/\∃l o,c=(none,l,o)/\l<o/\hint+l<n/\Ah rk left key arr base (hint+l)=true/\(n-hint<=o\/Ah rk left key arr base (hint+o)=false)) ?step ?fin ⟨rfl,0,1,rfl,by nofun,by nofun,by nofun,by rw[Nat.add_zero];exact q0⟩) ?post)
  case post=>
   rintro c st' ⟨rfl,l,o,rfl,a1,a2,a3,a4⟩
   dsimp only
   refine xj (w_bs C hk gk hg mono (by nofun) (by nofun) (fun i hi=>mono i (hint+l) (by nofun) a2 a3) (fun i b1 b2=>?_) fun k c1 c2 c3=>xk (h k c1 c2 c3))
   rcases a4 with a4|a4
   ·lia
   ·exact mono' (hint+o) i (by nofun) b2 a4
  case fin=>
   rintro c st' ⟨rfl,l,o,rfl,a1,a2,a3,a4⟩
   exact⟨rfl,l,o,rfl,a1,a3,a4,.inl (by nofun)⟩
  case step=>
   rintro x c st' _ hx ⟨rfl,l,o,rfl,a1,a2,a3,a4⟩
   dsimp only
   by_cases hge:o >= n-hint
   ·rw[xg hge];exact xk ⟨rfl,l,o,rfl,a1,a3,a4,.inl hge⟩
   ·rw[xh hge]
    obtain⟨e,g⟩:=hg (hint+o) (by nofun)
    refine xj (zNf C hk e g gk ?_)
    cases q:Ah rk left key arr base (hint+o)with
    | true=>exact xk ⟨rfl,o,2*o+1,rfl,by nofun,by nofun,by nofun,q⟩
    | false=>exact xk ⟨rfl,l,o,rfl,a1,a3,a4,.inr q⟩
 | false=>
  rw[xh (by decide)]
  refine xj (vm (xU (I:=fun x c st'=>st'=st/\∃l o,c=(none,l,o)/\l<o/\x<o/\l<=hint/\Ah rk left key arr base (hint-l)=false)
   (Q:=fun c st'=>st'=st/\∃l o,c=(none,l,o)/\l<o/\l<=hint/\Ah rk left key arr base (hint-l)=false/\(hint+1<=o\/Ah rk left key arr base (hint-o)=true)) ?step ?fin ⟨rfl,0,1,rfl,by nofun,by nofun,by nofun,by rw[Nat.sub_zero];exact q0⟩) ?post)
  case post=>
   rintro c st' ⟨rfl,l,o,rfl,a1,a2,a3,a4⟩
   dsimp only
   refine xj (w_bs C hk gk hg mono (by nofun) (by nofun) (fun i hi=>?_) (fun i b1 b2=>mono' (hint-l) i (by nofun) b2 a3) fun k c1 c2 c3=>xk (h k c1 c2 c3))
   rcases a4 with a4|a4
   ·lia
   ·exact mono i (hint-o) (by nofun) (by nofun) a4
  case fin=>
   rintro c st' ⟨rfl,l,o,rfl,a1,a2,a3,a4⟩
   exact⟨rfl,l,o,rfl,a1,a3,a4,.inl (by nofun)⟩
  case step=>
   rintro x c st' _ hx ⟨rfl,l,o,rfl,a1,a2,a3,a4⟩
   dsimp only
   by_cases hge:o >= hint+1
   ·rw[xg hge];exact xk ⟨rfl,l,o,rfl,a1,a3,a4,.inl hge⟩
   ·rw[xh hge]
    obtain⟨e,g⟩:=hg (hint-o) (by nofun)
    refine xj (zNf C hk e g gk ?_)
    cases q:Ah rk left key arr base (hint-o)with
    | true=>exact xk ⟨rfl,l,o,rfl,a1,a3,a4,.inr q⟩
    | false=>exact xk ⟨rfl,o,2*o+1,rfl,by nofun,by nofun,by nofun,q⟩
end
end TM
namespace TM
open PySem PyProof.Rows
section
variable {rk:Keyed->Nat}
noncomputable abbrev Pw (rk:Keyed->Nat) (l:List Keyed):Prop:=l.Pairwise fun x y=>rk x<=rk y
noncomputable def Le (rk:Keyed->Nat) (l m:List Keyed):Prop:=∀x∈l,∀y∈m,rk x<=rk y
theorem Le.app_r {l m n:List Keyed}(h:Le rk l m) (h':Le rk l n):Le rk l (m++n):=fun x hx y hy=>(xV.mp hy).elim (h x hx y) (h' x hx y)
theorem Le.app_l {l m n:List Keyed}(h:Le rk l n) (h':Le rk m n):Le rk (l++m) n:=fun x hx y hy=>(xV.mp hx).elim (fun q=>h x q y hy) (fun q=>h' x q y hy)
theorem Le.sub {l m l' m':List Keyed}(h:Le rk l m) (a:∀x∈l',x∈l) (b:∀x∈m',x∈m):Le rk l' m':=fun x hx y hy=>h x (a x hx) y (b y hy)
theorem Pw.app {l m:List Keyed}(h:Pw rk l) (h':Pw rk m) (q:Le rk l m):Pw rk (l++m):=List.pairwise_append.mpr ⟨h,h',fun x hx y hy=>q x hx y hy⟩
noncomputable def Go (rk:Keyed->Nat) (a b r:Array Keyed):Prop:=r.toList.Perm (a.toList++b.toList)/\Pw rk r.toList
theorem getD_list (a:Array Keyed) (i:Nat) (h:i<a.size):a.getD i dk=a.toList[i]'(by simpa using h):=by simp[Array.getD,h]
theorem So.pw {a:Array Keyed}(h:So rk a 0 a.size):Pw rk a.toList:=by
 rw[Pw,ye]
 intro i j hi hj hij
 have:=h i j (by nofun) (by nofun) (by simpa using hj)
 unfold ky at this
 rwa[getD_list a i (by simpa using hi),getD_list a j (by simpa using hj)]at this
noncomputable def ch (a:Array Keyed) (i k:Nat):List Keyed:=(a.toList.drop i).take k
theorem zCz (a:Array Keyed) (i k:Nat):(a.extract i (i+k)).toList=ch a i k:=by
 rw[uX,List.extract_eq_take_drop,Nat.add_sub_cancel_left];rfl
theorem zFg (a:Array Keyed) (i:Nat):(a.extract i a.size).toList=a.toList.drop i:=by
 rw[uX,List.extract_eq_take_drop]
 exact uc (by simp)
theorem zDe (a:Array Keyed) (i k:Nat):a.toList.take (i+k)=a.toList.take i++ch a i k:=by rw[List.take_add];rfl
theorem zBh (a:Array Keyed) (i k:Nat):a.toList.drop i=ch a i k++a.toList.drop (i+k):=by
 rw[ch,<- List.drop_drop,vA]
theorem zQq {a:Array Keyed}{i:Nat}(h:i<a.size):ch a i 1=[a.getD i dk]:=by
 rw[ch,getD_list a i h,List.drop_eq_getElem_cons (by simpa using h)];rfl
theorem zB3 {a:Array Keyed}{i k:Nat}{x:Keyed}(hx:x∈ch a i k):∃j,i<=j/\j<i+k/\j<a.size/\x=a.getD j dk:=by
 obtain⟨n,hn,rfl⟩:=List.getElem_of_mem hx
 have hn':=hn
 rw[ch,vo,ua]at hn'
 simp only[xW]at hn'
 refine⟨i+n,by nofun,by nofun,by nofun,?_⟩
 rw[getD_list a _ (by nofun)]
 simp[ch]
theorem zCy {a:Array Keyed}{i:Nat}{x:Keyed}(hx:x∈a.toList.drop i):∃j,i<=j/\j<a.size/\x=a.getD j dk:=by
 obtain⟨n,hn,rfl⟩:=List.getElem_of_mem hx
 rw[ua]at hn
 simp only[xW]at hn
 refine⟨i+n,by nofun,by nofun,?_⟩
 rw[getD_list a _ (by nofun)]
 simp
theorem zCx {a:Array Keyed}{i:Nat}{x:Keyed}(hx:x∈a.toList.take i):∃j,j<i/\j<a.size/\x=a.getD j dk:=by
 obtain⟨n,hn,rfl⟩:=List.getElem_of_mem hx
 rw[vo]at hn
 simp only[xW]at hn
 refine⟨n,by nofun,by nofun,?_⟩
 rw[getD_list a _ (by nofun)]
 simp
theorem zCb {a:Array Keyed}{l:List Keyed}(h:Pw rk a.toList) (q:l.Sublist a.toList):Pw rk l:=h.sublist q
theorem zO0 {a:Array Keyed}{i k:Nat}(h:Pw rk a.toList):Pw rk (ch a i k):=zCb h ((uj _ _).trans (uG _ _))
structure MI (rk:Keyed->Nat) (a b out:Array Keyed) (ia ib:Nat):Prop where
 perm:out.toList.Perm (a.toList.take ia++b.toList.take ib)
 so:Pw rk out.toList
 la:Le rk out.toList (a.toList.drop ia)
 lb:Le rk out.toList (b.toList.drop ib)
variable {a b out:Array Keyed}{ia ib k:Nat}
theorem MI.xa (m:MI rk a b out ia ib) (sa:So rk a 0 a.size) (h:∀i j,ia<=i->i<ia+k->i<a.size->ib<=j->j<b.size->ky rk a i<=ky rk b j):MI rk a b (out++a.extract ia (ia+k)) (ia+k) ib:=by
 have e:(out++a.extract ia (ia+k)).toList=out.toList++ch a ia k:=by rw[vp,zCz]
 have l1:=m.la
 rw[zBh a ia k]at l1
 refine⟨?_,?_,?_,?_⟩ <;> rw[e]
 ·rw[zDe]
  refine(m.perm.append_right _).trans ?_
  rw[xv,xv]
  exact u3 _ uy
 ·exact m.so.app (zO0 sa.pw) (l1.sub (fun _ h=>h) fun _ h=>vC _ h)
 ·refine Le.app_l (l1.sub (fun _ h=>h) fun _ h=>xI _ h) fun x hx y hy=>?_
  obtain⟨i,i1,i2,i3,rfl⟩:=zB3 hx
  obtain⟨j,j1,j2,rfl⟩:=zCy hy
  exact sa i j (by nofun) (by nofun) (by nofun)
 ·refine Le.app_l m.lb fun x hx y hy=>?_
  obtain⟨i,i1,i2,i3,rfl⟩:=zB3 hx
  obtain⟨j,j1,j2,rfl⟩:=zCy hy
  exact h i j i1 i2 i3 j1 j2
theorem MI.xb (m:MI rk a b out ia ib) (sb:So rk b 0 b.size) (h:∀i j,ib<=i->i<ib+k->i<b.size->ia<=j->j<a.size->ky rk b i<=ky rk a j):MI rk a b (out++b.extract ib (ib+k)) ia (ib+k):=by
 have e:(out++b.extract ib (ib+k)).toList=out.toList++ch b ib k:=by rw[vp,zCz]
 have l1:=m.lb
 rw[zBh b ib k]at l1
 refine⟨?_,?_,?_,?_⟩ <;> rw[e]
 ·rw[zDe,<- xv]
  exact m.perm.append_right _
 ·exact m.so.app (zO0 sb.pw) (l1.sub (fun _ h=>h) fun _ h=>vC _ h)
 ·refine Le.app_l m.la fun x hx y hy=>?_
  obtain⟨i,i1,i2,i3,rfl⟩:=zB3 hx
  obtain⟨j,j1,j2,rfl⟩:=zCy hy
  exact h i j i1 i2 i3 j1 j2
 ·refine Le.app_l (l1.sub (fun _ h=>h) fun _ h=>xI _ h) fun x hx y hy=>?_
  obtain⟨i,i1,i2,i3,rfl⟩:=zB3 hx
  obtain⟨j,j1,j2,rfl⟩:=zCy hy
  exact sb i j (by nofun) (by nofun) (by nofun)
theorem zKs {a out:Array Keyed}{i:Nat}(h:i<a.size):out.push (a.getD i dk)=out++a.extract i (i+1):=by
 apply u4.mp
 rw[vp,zCz,zQq h,Array.toList_push]
theorem MI.pa (m:MI rk a b out ia ib) (sa:So rk a 0 a.size) (ha:ia<a.size) (h:∀j,ib<=j->j<b.size->ky rk a ia<=ky rk b j):MI rk a b (out.push (a.getD ia dk)) (ia+1) ib:=by
 rw[zKs ha]
 exact m.xa sa fun i j h1 h2 h3 h4 h5=>by rw[show i=ia by nofun];exact h j h4 h5
theorem MI.pb (m:MI rk a b out ia ib) (sb:So rk b 0 b.size) (hb:ib<b.size) (h:∀j,ia<=j->j<a.size->ky rk b ib<=ky rk a j):MI rk a b (out.push (b.getD ib dk)) ia (ib+1):=by
 rw[zKs hb]
 exact m.xb sb fun i j h1 h2 h3 h4 h5=>by rw[show i=ib by nofun];exact h j h4 h5
theorem MI.dn (m:MI rk a b out ia ib) (sa:So rk a 0 a.size) (sb:So rk b 0 b.size) (h:a.size<=ia\/b.size<=ib):Go rk a b (out++a.extract ia a.size++b.extract ib b.size):=by
 unfold Go
 rw[vp,vp,zFg,zFg]
 constructor
 ·refine(((m.perm.append_right _).append_right _)).trans ?_
  rw[xv,xv,<- xv (b.toList.take ib)]
  refine(u3 _ (uy.append_right _)).trans ?_
  rw[xv,vA,<- xv,vA]
 ·refine(m.so.app (zCb sa.pw (uG _ _)) m.la).app (zCb sb.pw (uG _ _)) (Le.app_l m.lb fun x hx y hy=>?_)
  obtain⟨i,i1,i2,rfl⟩:=zCy hx
  obtain⟨j,j1,j2,rfl⟩:=zCy hy
  lia
theorem MI.last (m:MI rk a b out ia ib) (sa:So rk a 0 a.size) (sb:So rk b 0 b.size) (h:a.size=ia+1) (hl:∀j,j<b.size->ky rk b j<=ky rk a (a.size-1)):Go rk a b (out++b.extract ib b.size++a.extract ia a.size):=by
 unfold Go
 rw[vp,vp,zFg,zFg]
 constructor
 ·refine(((m.perm.append_right _).append_right _)).trans ?_
  rw[xv,xv,<- xv (b.toList.take ib),vA]
  refine(u3 _ uy).trans ?_
  rw[<- xv,vA]
 ·refine(m.so.app (zCb sb.pw (uG _ _)) m.lb).app (zCb sa.pw (uG _ _)) (Le.app_l m.la fun x hx y hy=>?_)
  obtain⟨i,i1,i2,rfl⟩:=zCy hx
  obtain⟨j,j1,j2,rfl⟩:=zCy hy
  have:=hl i i2
  rwa[show a.size-1=j by nofun]at this
theorem MI.start (sb:So rk b 0 b.size) (sa:So rk a 0 a.size) (hb:0<b.size) (h:ky rk b 0<=ky rk a 0):MI rk a b #[b.getD 0 dk] 0 1:=by
 have m0:MI rk a b #[] 0 0:=⟨by simp,by simp[Pw],fun x hx=>by simp at hx,fun x hx=>by simp at hx⟩
 exact m0.pb sb hb fun j _ hj=>xp h (sa 0 j (by nofun) (by nofun) hj)
structure MJ (rk:Keyed->Nat) (a b out:Array Keyed) (na nb:Nat):Prop where
 perm:out.reverse.toList.Perm (a.toList.drop na++b.toList.drop nb)
 so:Pw rk out.reverse.toList
 la:Le rk (a.toList.take na) out.reverse.toList
 lb:Le rk (b.toList.take nb) out.reverse.toList
variable {na nb:Nat}
theorem MJ.xa (m:MJ rk a b out (na+k) nb) (sa:So rk a 0 a.size) (hk:na+k<=a.size) (h:∀i j,na<=i->i<na+k->i<a.size->j<nb->j<b.size->ky rk b j<=ky rk a i):MJ rk a b (out++(a.extract na (na+k)).reverse) na nb:=by
 have e:(out++(a.extract na (na+k)).reverse).reverse.toList=ch a na k++out.reverse.toList:=by rw[Array.reverse_append,vp,Array.reverse_reverse,zCz]
 have l1:=m.la
 rw[zDe a na k]at l1
 refine⟨?_,?_,?_,?_⟩ <;> rw[e]
 ·rw[zBh a na k,xv]
  exact m.perm.append_left _
 ·exact(zO0 sa.pw).app m.so (l1.sub (fun _ h=>xI _ h) fun _ h=>h)
 ·refine Le.app_r (fun x hx y hy=>?_) (l1.sub (fun _ h=>vC _ h) fun _ h=>h)
  obtain⟨i,i1,i2,i3,rfl⟩:=zB3 hy
  obtain⟨j,j1,j2,rfl⟩:=zCx hx
  exact sa j i (by nofun) (by nofun) (by nofun)
 ·refine Le.app_r (fun x hx y hy=>?_) m.lb
  obtain⟨i,i1,i2,i3,rfl⟩:=zB3 hy
  obtain⟨j,j1,j2,rfl⟩:=zCx hx
  exact h i j i1 i2 i3 j1 j2
theorem MJ.xb (m:MJ rk a b out na (nb+k)) (sb:So rk b 0 b.size) (hk:nb+k<=b.size) (h:∀i j,nb<=i->i<nb+k->i<b.size->j<na->j<a.size->ky rk a j<=ky rk b i):MJ rk a b (out++(b.extract nb (nb+k)).reverse) na nb:=by
 have e:(out++(b.extract nb (nb+k)).reverse).reverse.toList=ch b nb k++out.reverse.toList:=by rw[Array.reverse_append,vp,Array.reverse_reverse,zCz]
 have l1:=m.lb
 rw[zDe b nb k]at l1
 refine⟨?_,?_,?_,?_⟩ <;> rw[e]
 ·rw[zBh b nb k]
  refine(m.perm.append_left _).trans ?_
  rw[<- xv,<- xv]
  exact uy.append_right _
 ·exact(zO0 sb.pw).app m.so (l1.sub (fun _ h=>xI _ h) fun _ h=>h)
 ·refine Le.app_r (fun x hx y hy=>?_) m.la
  obtain⟨i,i1,i2,i3,rfl⟩:=zB3 hy
  obtain⟨j,j1,j2,rfl⟩:=zCx hx
  exact h i j i1 i2 i3 j1 j2
 ·refine Le.app_r (fun x hx y hy=>?_) (l1.sub (fun _ h=>vC _ h) fun _ h=>h)
  obtain⟨i,i1,i2,i3,rfl⟩:=zB3 hy
  obtain⟨j,j1,j2,rfl⟩:=zCx hx
  exact sb j i (by nofun) (by nofun) (by nofun)
theorem zKr {a out:Array Keyed}{i:Nat}(h:i<a.size):out.push (a.getD i dk)=out++(a.extract i (i+1)).reverse:=by
 apply u4.mp
 rw[vp,Array.toList_reverse,zCz,zQq h,Array.toList_push];rfl
theorem MJ.pa (m:MJ rk a b out (na+1) nb) (sa:So rk a 0 a.size) (ha:na<a.size) (h:∀j,j<nb->j<b.size->ky rk b j<=ky rk a na):MJ rk a b (out.push (a.getD na dk)) na nb:=by
 rw[zKr ha]
 exact m.xa sa (by nofun) fun i j h1 h2 h3 h4 h5=>by rw[show i=na by nofun];exact h j h4 h5
theorem MJ.pb (m:MJ rk a b out na (nb+1)) (sb:So rk b 0 b.size) (hb:nb<b.size) (h:∀j,j<na->j<a.size->ky rk a j<=ky rk b nb):MJ rk a b (out.push (b.getD nb dk)) na nb:=by
 rw[zKr hb]
 exact m.xb sb (by nofun) fun i j h1 h2 h3 h4 h5=>by rw[show i=nb by nofun];exact h j h4 h5
theorem zD8 (a:Array Keyed) (i:Nat):(a.extract 0 i).toList=a.toList.take i:=by
 rw[uX,List.extract_eq_take_drop];rfl
theorem MJ.dn (m:MJ rk a b out na nb) (sa:So rk a 0 a.size) (sb:So rk b 0 b.size) (h:na=0\/nb=0):Go rk a b (a.extract 0 na++b.extract 0 nb++out.reverse):=by
 unfold Go
 rw[vp,vp,zD8,zD8]
 constructor
 ·refine(m.perm.append_left _).trans ?_
  rw[xv,<- xv (b.toList.take nb)]
  refine(u3 _ (uy.append_right _)).trans ?_
  rw[xv,vA,<- xv,vA]
 ·refine Pw.app (Pw.app (zCb sa.pw (uj _ _)) (zCb sb.pw (uj _ _)) fun x hx y hy=>?_) m.so (Le.app_l m.la m.lb)
  obtain⟨i,i1,i2,rfl⟩:=zCx hx
  obtain⟨j,j1,j2,rfl⟩:=zCx hy
  lia
theorem MJ.fst (m:MJ rk a b out na nb) (sa:So rk a 0 a.size) (sb:So rk b 0 b.size) (h:nb=1) (hl:∀j,j<a.size->ky rk b 0<=ky rk a j):Go rk a b (b.extract 0 nb++a.extract 0 na++out.reverse):=by
 unfold Go
 rw[vp,vp,zD8,zD8]
 constructor
 ·refine(m.perm.append_left _).trans ?_
  rw[xv,<- xv (a.toList.take na),vA]
  refine(u3 _ uy).trans ?_
  rw[<- xv,vA]
  exact uy
 ·refine Pw.app (Pw.app (zCb sb.pw (uj _ _)) (zCb sa.pw (uj _ _)) fun x hx y hy=>?_) m.so (Le.app_l m.lb m.la)
  obtain⟨i,i1,i2,rfl⟩:=zCx hx
  obtain⟨j,j1,j2,rfl⟩:=zCx hy
  rw[show i=0 by nofun]
  exact hl j j2
theorem MJ.start (sb:So rk b 0 b.size) (sa:So rk a 0 a.size) (ha:0<a.size) (h:∀j,j<b.size->ky rk b j<=ky rk a (a.size-1)):MJ rk a b #[a.getD (a.size-1) dk] (a.size-1) b.size:=by
 have m0:MJ rk a b #[] (a.size-1+1) b.size:=⟨by rw[show a.size-1+1=a.size by nofun];simp,by simp[Pw],fun x hx y hy=>by simp at hy,fun x hx y hy=>by simp at hy⟩
 exact m0.pa sa (by nofun) fun j _ hj=>h j hj
end
end TM
namespace TM
open PySem PyProof.Rows
noncomputable def zAq:Nat->StateT SortSt Sem Unit:=sortPriv% PySem.Builtin.setMinGallop
noncomputable def zF4:Array Keyed->Array Keyed->StateT SortSt Sem (Array Keyed):=sortPriv% PySem.Builtin.mergeLo
noncomputable def zF5:Array Keyed->Array Keyed->StateT SortSt Sem (Array Keyed):=sortPriv% PySem.Builtin.mergeHi
noncomputable abbrev zPy (st:SortSt) (g:Nat):SortSt:=SortSt.mk' (kindOf st) (arrOf st) (pendingOf st) g (failedOf st)
theorem zCa (g:Nat):zAq g=modify fun st=>zPy st g:=rfl
structure Sm (st st':SortSt):Prop where
 k:kindOf st'=kindOf st
 a:arrOf st'=arrOf st
 p:pendingOf st'=pendingOf st
 f:failedOf st'=failedOf st
theorem Sm.refl {st:SortSt}:Sm st st:=⟨rfl,rfl,rfl,rfl⟩
theorem Sm.gal {st st':SortSt}(h:Sm st st') (g:Nat):Sm st (zPy st' g):=⟨h.k,h.a,h.p,h.f⟩
noncomputable abbrev fl (o x y:Array Keyed) (i j:Nat):Array Keyed:=o++x.extract i x.size++y.extract j y.size
theorem zW1 (x y:Array Keyed):zF4 x y=(do
 rule "list.sort.merge-lo"
 let mut o:Array Keyed:=#[<- elem' y 0]
 let mut i:=0
 let mut j:=1
 if j == y.size then return fl o x y i j
 if i+1 == x.size then return fl o y x j i
 let mut g:=gallopOf (<- get)
 for _ in [0:x.size+y.size] do
  let mut c:=0
  let mut d:=0
  for _ in [0:x.size+y.size] do
   let some less <- lt' (<- elem' y j) (<- elem' x i)|return fl o x y i j
   if less then
    o:=o.push (<- elem' y j);j:=j+1;d:=d+1;c:=0
    if j == y.size then return fl o x y i j
    if d >= g then break
   else
    o:=o.push (<- elem' x i);i:=i+1;c:=c+1;d:=0
    if i+1 == x.size then return fl o y x j i
    if c >= g then break
  rule "list.sort.gallop"
  g:=g+1
  for _ in [0:x.size+y.size] do
   if g > 1 then g:=g-1
   zAq g
   let some k <- gallop' false (<- elem' y j) x i (x.size-i) 0|return fl o x y i j
   c:=k
   if k > 0 then
    o:=o++x.extract i (i+k);i:=i+k
    if i+1 == x.size then return fl o y x j i
    if i == x.size then return fl o x y i j
   o:=o.push (<- elem' y j);j:=j+1
   if j == y.size then return fl o x y i j
   let some k <- gallop' true (<- elem' x i) y j (y.size-j) 0|return fl o x y i j
   d:=k
   if k > 0 then
    o:=o++y.extract j (j+k);j:=j+k
    if j == y.size then return fl o x y i j
   o:=o.push (<- elem' x i);i:=i+1
   if i+1 == x.size then return fl o y x j i
   if c<7 && d<7 then break
  g:=g+1
  zAq g
 unsupported "internal:list.sort.merge-bound"):=rfl
section
variable {α β γ δ ε ζ τ σ:Type}
theorem X4 {c:Option τ × α × β × γ × δ}{W:α->β->γ->δ->Prop}{G:Option τ × α × β × γ × δ->Prop}(h:∃o i j g,c=(none,o,i,j,g)/\W o i j g) (k:∀o i j g,W o i j g->G (none,o,i,j,g)):G c:=by
 obtain⟨o,i,j,g,rfl,w⟩:=h
 exact k o i j g w
theorem X5 {c:Option τ × α × β × γ × δ × ε}{W:α->β->γ->δ->ε->Prop}{t u:σ}{G:Option τ × α × β × γ × δ × ε->σ->Prop}(h:t=u/\∃o i j d e,c=(none,o,i,j,d,e)/\W o i j d e) (k:∀o i j d e,W o i j d e->G (none,o,i,j,d,e) u):G c t:=by
 obtain⟨rfl,o,i,j,d,e,rfl,w⟩:=h
 exact k o i j d e w
theorem Y5 {c:Option τ × α × β × γ × δ × ε}{V:τ->Prop}{W:α->β->γ->δ->ε->Prop}{t u:σ}{G:Option τ × α × β × γ × δ × ε->σ->Prop}(h:t=u/\((∃r z,c=(some r,z)/\V r)\/∃o i j d e,c=(none,o,i,j,d,e)/\W o i j d e)) (k1:∀r z,V r->G (some r,z) u) (k:∀o i j d e,W o i j d e->G (none,o,i,j,d,e) u):G c t:=by
 obtain⟨rfl,⟨r,z,rfl,v⟩|⟨o,i,j,d,e,rfl,w⟩⟩:=h
 ·exact k1 r z v
 ·exact k o i j d e w
theorem X6 {c:Option τ × α × β × γ × δ × ε × ζ}{P:Prop}{W:α->β->γ->δ->ε->ζ->Prop}{G:Option τ × α × β × γ × δ × ε × ζ->Prop}(h:P/\∃o i j g d e,c=(none,o,i,j,g,d,e)/\W o i j g d e) (k:P->∀o i j g d e,W o i j g d e->G (none,o,i,j,g,d,e)):G c:=by
 obtain⟨p,o,i,j,g,d,e,rfl,w⟩:=h
 exact k p o i j g d e w
end
section
variable {prog:Program}{w:World}{A:Around}{E:Value->Shared->Prop}{s:Shared}{κ:SortKind}{rk:Keyed->Nat}{Gd:Keyed->Prop}
noncomputable def Wy (rk:Keyed->Nat) (a b out:Array Keyed) (i j n:Nat):Prop:=MI rk a b out i j/\i+1<a.size/\j<b.size/\n<=i+j
theorem w_if {γ:Type}{c:Prop}[Decidable c] {st:SortSt}{m n:StateT SortSt Sem γ}{Q:γ->SortSt->Prop}(h1:c->wpS (model prog w) A E s m Q st) (h2:¬ c->wpS (model prog w) A E s n Q st):wpS (model prog w) A E s (if c then m else n) Q st:=by
 by_cases h:c
 ·rw[xg h];exact h1 h
 ·rw[xh h];exact h2 h
theorem w_jr {γ:Type}{c c2 Z:Prop}[Decidable c] [Decidable c2] {st:SortSt}{m m2 g:StateT SortSt Sem γ}{Q:γ->SortSt->Prop}
  (h1:c->c2->wpS (model prog w) A E s m2 Q st) (hz:c->¬ c2->Z) (h0:¬ c->Z/\(wpS (model prog w) A E s g Q st->wpS (model prog w) A E s m Q st)) (h:Z->wpS (model prog w) A E s g Q st):wpS (model prog w) A E s (if c then if c2 then m2 else g else m) Q st:=
 w_if (fun q=>w_if (h1 q) fun q2=>h (hz q q2)) fun q=>(h0 q).2 (h (h0 q).1)
theorem w_jq {γ:Type}{c c2 c3 Z:Prop}[Decidable c] [Decidable c2] [Decidable c3] {st:SortSt}{m m2 m3 g:StateT SortSt Sem γ}{Q:γ->SortSt->Prop}
  (h1:c->c2->wpS (model prog w) A E s m2 Q st) (h2:c->¬ c2->c3->wpS (model prog w) A E s m3 Q st) (hz:c->¬ c2->¬ c3->Z) (h0:¬ c->Z/\(wpS (model prog w) A E s g Q st->wpS (model prog w) A E s m Q st)) (h:Z->wpS (model prog w) A E s g Q st):wpS (model prog w) A E s (if c then if c2 then m2 else if c3 then m3 else g else m) Q st:=
 w_if (fun q=>w_if (h1 q) fun q2=>w_if (h2 q q2) fun q3=>h (hz q q2 q3)) fun q=>(h0 q).2 (h (h0 q).1)
theorem ext0 {o b:Array Keyed}{i:Nat}:o++b.extract i (i+0)=o:=by simp[Nat.min_le_left]
theorem zPs {γ:Type}{c:Prop}[Decidable c] {st:SortSt}{f:Nat->StateT SortSt Sem γ}{x g:Nat}{Q:γ->SortSt->Prop}(h:∀g',wpS (model prog w) A E s (f g') Q st):wpS (model prog w) A E s (if c then f x else f g) Q st:=w_if (fun _=>h x) fun _=>h g
theorem zAi {m n:Nat}(h:¬ (m == n)=true):m≠n:=fun e=>h (by simp[e])
theorem ah_t {left:Bool}{key:Keyed}{arr:Array Keyed}{base i:Nat}(h:Ah rk left key arr base i=true):if left then ky rk arr (base+i)<rk key else ky rk arr (base+i)<=rk key:=by
 unfold Ah at h;cases left <;> simp at h ⊢ <;> lia
theorem ah_f {left:Bool}{key:Keyed}{arr:Array Keyed}{base i:Nat}(h:Ah rk left key arr base i=false):if left then rk key<=ky rk arr (base+i)else rk key<ky rk arr (base+i):=by
 unfold Ah at h;cases left <;> simp at h ⊢ <;> lia
theorem So.sub {a:Array Keyed}{i j k l:Nat}(h:So rk a i j) (h1:i<=k) (h2:l<=j):So rk a k l:=fun x y a b c=>h x y (by omega) b (by omega)
theorem zXy (C:Cm prog w A s κ rk Gd) {st:SortSt}{a b:Array Keyed}{Q:Array Keyed->SortSt->Prop}(hk:kindOf st=κ) (ga:∀i,i<a.size->a[i]?=some (a.getD i dk)/\Gd (a.getD i dk)) (gb:∀i,i<b.size->b[i]?=some (b.getD i dk)/\Gd (b.getD i dk))
  (sa:So rk a 0 a.size) (sb:So rk b 0 b.size) (ha:0<a.size) (hb:0<b.size) (h1:ky rk b 0<=ky rk a 0) (h2:∀j,j<b.size->ky rk b j<=ky rk a (a.size-1))
  (h:∀r st',Sm st st'->Go rk a b r->Q r st'):wpS (model prog w) A E s (zF4 a b) Q st:=by
 rw[zW1]
 refine xj (wpS_lift (xX ⟨rfl,?_⟩))
 refine xj (zAg (gb 0 hb).1 ?_)
 dsimp only
 have m0:=MI.start sb sa hb h1
 refine w_if (fun q1=>?_) fun q1=>?_
 ·have q1':=eq_of_beq q1
  exact xk (h _ _ .refl (m0.dn sa sb (.inr (by omega))))
 by_cases q2:(0+1 == a.size)=true
 ·rw[xg q2]
  have q2':=eq_of_beq q2
  exact xk (h _ _ .refl (m0.last sa sb (by omega) h2))
 rw[xh q2]
 have q1':1≠b.size:=fun e=>q1 (by simp[<- e])
 have q2':0+1≠a.size:=fun e=>q2 (by simp[<- e])
 refine xj (wpS_get ?_)
 refine xj (vm (xU (I:=fun x c st'=>∃o i j g,c=(none,o,i,j,g)/\Sm st st'/\Wy rk a b o i j (x+1))
  (Q:=fun c st'=>Sm st st'/\∃r z,c=(some r,z)/\Go rk a b r) ?step ?fin ⟨_,_,_,_,rfl,.refl,m0,by omega,by omega,by omega⟩) ?post)
 case post=>
  rintro c st' ⟨S,r,z,rfl,G⟩
  exact xk (h _ _ S G)
 case fin=>
  rintro c st' ⟨o,i,j,g,rfl,S,m,b1,b2,b3⟩
  exfalso;lia
 case step=>
  intro x c st' _ hx hh
  apply X4 hh
  intro o i j g WW
  have S:=WW.1
  have W:=WW.2
  dsimp only
  refine xj (vm (xU (I:=fun y c st2=>st2=st'/\∃o i j d e,c=(none,o,i,j,d,e)/\Wy rk a b o i j (x+1+y))
   (Q:=fun c st2=>st2=st'/\((∃r z,c=(some r,z)/\Go rk a b r)\/∃o i j d e,c=(none,o,i,j,d,e)/\Wy rk a b o i j (x+2))) ?s1 ?f1 ⟨rfl,_,_,_,_,_,rfl,W⟩) ?p1)
  case f1=>
   rintro c st2 ⟨rfl,o,i,j,d,e,rfl,m,b1,b2,b3⟩
   exfalso;lia
  case s1=>
   intro y c st2 _ hy hh
   apply X5 hh
   intro o i j d e WW
   have m:=WW.1
   have b1:=WW.2.1
   have b2:=WW.2.2.1
   have b3:=WW.2.2.2
   dsimp only
   refine xj (zAg (gb j b2).1 (xj (zAg (ga i (by omega)).1 (xj (w_lt C (S.k.trans hk) (gb j b2).2 (ga i (by omega)).2 ?_)))))
   by_cases q:rk (b.getD j dk)<rk (a.getD i dk)
   ·rw[xB q]
    dsimp only
    rw[xg rfl]
    refine xj (zAg (gb j b2).1 ?_)
    have m':=m.pb sb b2 fun j' hj1 hj2=>xp (xN q) (sa i j' (by omega) hj1 hj2)
    refine w_if (fun q3=>?_) fun q3=>?_
    ·have:=eq_of_beq q3
     exact xk ⟨rfl,.inl ⟨_,_,rfl,m'.dn sa sb (.inr (by nofun))⟩⟩
    ·have q3':j+1≠b.size:=fun e=>q3 (by simp[<- e])
     refine w_if (fun _=>?_) fun _=>?_
     ·exact xk ⟨rfl,.inr ⟨_,_,_,_,_,rfl,m',b1,by nofun,by nofun⟩⟩
     ·exact xk ⟨rfl,_,_,_,_,_,rfl,m',b1,by nofun,by nofun⟩
   ·rw[xy q]
    dsimp only
    rw[xh (by decide)]
    refine xj (zAg (ga i (by omega)).1 ?_)
    have m':=m.pa sa (by omega) fun j' hj1 hj2=>xp (Nat.not_lt.mp q) (sb j j' (by omega) hj1 hj2)
    refine w_if (fun q3=>?_) fun q3=>?_
    ·have:=eq_of_beq q3
     exact xk ⟨rfl,.inl ⟨_,_,rfl,m'.last sa sb (by nofun) h2⟩⟩
    ·have q3':i+1+1≠a.size:=fun e=>q3 (by simp[<- e])
     refine w_if (fun _=>?_) fun _=>?_
     ·exact xk ⟨rfl,.inr ⟨_,_,_,_,_,rfl,m',by nofun,by nofun,by nofun⟩⟩
     ·exact xk ⟨rfl,_,_,_,_,_,rfl,m',by nofun,by nofun,by nofun⟩
  case p1=>
   intro c st2 hh
   apply Y5 hh
   ·intro r z G
    exact xk ⟨S,_,_,rfl,G⟩
   intro o i j d e W
   dsimp only
   refine xj (wpS_lift (xX ⟨rfl,?_⟩))
   refine xj (vm (xU (I:=fun y c st3=>Sm st st3/\∃o i j g d e,c=(none,o,i,j,g,d,e)/\Wy rk a b o i j (x+2+y))
    (Q:=fun c st3=>Sm st st3/\((∃r z,c=(some r,z)/\Go rk a b r)\/∃o i j g d e,c=(none,o,i,j,g,d,e)/\Wy rk a b o i j (x+2))) ?s2 ?f2 ⟨S,_,_,_,_,_,_,rfl,W⟩) ?p2)
   case f2=>
    rintro c st2 ⟨_,o,i,j,g,d,e,rfl,m,b1,b2,b3⟩
    exfalso;lia
   case p2=>
    rintro c st3 ⟨S3,⟨r,z,rfl,G⟩|⟨o,i,j,g,d,e,rfl,W⟩⟩
    ·exact xk ⟨S3,_,_,rfl,G⟩
    dsimp only
    rw[zCa]
    exact xj (vv (xk ⟨_,_,_,_,rfl,S3.gal _,W⟩))
   case s2=>
    intro y c st2 _ hy hh
    apply X6 hh
    intro S2 o i j g d e WW
    have m:=WW.1
    have b1:=WW.2.1
    have b2:=WW.2.2.1
    have b3:=WW.2.2.2
    dsimp only
    generalize g-1=x1
    apply zPs (g:=g)
    intro g'
    rw[zCa]
    refine xj (vv (xj (zAg (gb j b2).1 (xj (zIx C (S2.k.trans hk) (gb j b2).2 (fun z hz=>ga (i+z) (by omega)) (sa.sub (by omega) (by omega)) (by omega) fun k d1 d2 d3=>?_)))))
    have d4:∀z,i<=z->z<i+k->ky rk a z<=ky rk b j:=fun z z1 z2=>by
     have:=ah_t (d2 (z-i) (by omega))
     rwa[xh (by decide),show i+(z-i)=z by omega]at this
    have d5:∀z,i+k<=z->z<a.size->ky rk b j<=ky rk a z:=fun z z1 z2=>by
     have:=ah_f (d3 (z-i) (by omega) (by omega))
     rw[xh (by decide),show i+(z-i)=z by omega]at this
     exact xN this
    dsimp only
    have m1:=m.xa sa fun i' j' e1 e2 e3 e4 e5=>xp (d4 i' e1 e2) (sb _ _ (by omega) e4 e5)
    refine w_jq (Z:=i+k+1<a.size) ?_ ?_ ?_ ?_ ?_
    ·intro _ q2
     have:=eq_of_beq q2
     exact xk ⟨S2.gal _,.inl ⟨_,_,rfl,m1.last sa sb (by nofun) h2⟩⟩
    ·intro _ q2 q7
     have:=eq_of_beq q7
     exact xk ⟨S2.gal _,.inl ⟨_,_,rfl,m1.dn sa sb (.inl (by nofun))⟩⟩
    ·intro q1 q2 q7
     have q2':=zAi q2
     have q7':=zAi q7
     omega
    ·intro q1
     obtain rfl:k=0:=by nofun
     rw[ext0]
     exact⟨b1,id⟩
    ·intro q2'
     refine xj (zAg (gb j b2).1 ?_)
     have m2:=m1.pb sb b2 fun j' hj1 hj2=>d5 j' hj1 hj2
     refine w_if (fun q3=>?_) fun q3=>?_
     ·have:=eq_of_beq q3
      exact xk ⟨S2.gal _,.inl ⟨_,_,rfl,m2.dn sa sb (.inr (by nofun))⟩⟩
     have q3':=zAi q3
     refine xj (zAg (ga (i+k) (by omega)).1 (xj (zIx C (S2.k.trans hk) (ga (i+k) (by omega)).2 (fun z hz=>gb (j+1+z) (by omega)) (sb.sub (by omega) (by omega)) (by omega) fun k2 c1 c2 c3=>?_)))
     have c4:∀z,j+1<=z->z<j+1+k2->ky rk b z<=ky rk a (i+k):=fun z z1 z2=>by
      have:=ah_t (c2 (z-(j+1)) (by omega))
      rw[xg rfl,show j+1+(z-(j+1))=z by omega]at this
      exact xN this
     have c5:∀z,j+1+k2<=z->z<b.size->ky rk a (i+k)<=ky rk b z:=fun z z1 z2=>by
      have:=ah_f (c3 (z-(j+1)) (by omega) (by omega))
      rwa[xg rfl,show j+1+(z-(j+1))=z by omega]at this
     dsimp only
     have m3:=m2.xb sb fun i' j' e1 e2 e3 e4 e5=>xp (c4 i' e1 e2) (sa _ _ (by omega) e4 e5)
     refine w_jr (Z:=j+1+k2<b.size) ?_ ?_ ?_ ?_
     ·intro _ q6
      have:=eq_of_beq q6
      exact xk ⟨S2.gal _,.inl ⟨_,_,rfl,m3.dn sa sb (.inr (by nofun))⟩⟩
     ·intro _ q6
      have q6':=zAi q6
      omega
     ·intro q4
      obtain rfl:k2=0:=by nofun
      rw[ext0]
      exact⟨by omega,id⟩
     ·intro q6'
      refine xj (zAg (ga (i+k) (by omega)).1 ?_)
      have m4:=m3.pa sa (by omega) fun j' hj1 hj2=>c5 j' hj1 hj2
      refine w_if (fun q5=>?_) fun q5=>?_
      ·have:=eq_of_beq q5
       exact xk ⟨S2.gal _,.inl ⟨_,_,rfl,m4.last sa sb (by nofun) h2⟩⟩
      have q5':=zAi q5
      refine w_if (fun _=>?_) fun _=>?_
      ·exact xk ⟨S2.gal _,.inr ⟨_,_,_,_,_,_,rfl,m4,by nofun,by nofun,by nofun⟩⟩
      ·exact xk ⟨S2.gal _,_,_,_,_,_,_,rfl,m4,by nofun,by nofun,by nofun⟩
end
end TM
namespace TM
open PySem PyProof.Rows
noncomputable abbrev fr (o x y:Array Keyed) (i j:Nat):Array Keyed:=x.extract 0 i++y.extract 0 j++o.reverse
theorem zW2 (x y:Array Keyed):zF5 x y=(do
 rule "list.sort.merge-hi"
 let mut i:=x.size-1
 let mut j:=y.size
 let mut o:Array Keyed:=#[<- elem' x i]
 if i == 0 then return fr o x y i j
 if j == 1 then return fr o y x j i
 let mut g:=gallopOf (<- get)
 for _ in [0:x.size+y.size] do
  let mut c:=0
  let mut d:=0
  for _ in [0:x.size+y.size] do
   let some less <- lt' (<- elem' y (j-1)) (<- elem' x (i-1))|return fr o x y i j
   if less then
    i:=i-1;o:=o.push (<- elem' x i);c:=c+1;d:=0
    if i == 0 then return fr o x y i j
    if c >= g then break
   else
    j:=j-1;o:=o.push (<- elem' y j);d:=d+1;c:=0
    if j == 1 then return fr o y x j i
    if d >= g then break
  rule "list.sort.gallop"
  g:=g+1
  for _ in [0:x.size+y.size] do
   if g > 1 then g:=g-1
   zAq g
   let some n <- gallop' false (<- elem' y (j-1)) x 0 i (i-1)|return fr o x y i j
   c:=i-n
   if i-n > 0 then
    o:=o++(x.extract n i).reverse;i:=n
    if i == 0 then return fr o x y i j
   j:=j-1;o:=o.push (<- elem' y j)
   if j == 1 then return fr o y x j i
   let some n <- gallop' true (<- elem' x (i-1)) y 0 j (j-1)|return fr o x y i j
   d:=j-n
   if j-n > 0 then
    o:=o++(y.extract n j).reverse;j:=n
    if j == 1 then return fr o y x j i
    if j == 0 then return fr o x y i j
   i:=i-1;o:=o.push (<- elem' x i)
   if i == 0 then return fr o x y i j
   if c<7 && d<7 then break
  g:=g+1
  zAq g
 unsupported "internal:list.sort.merge-bound"):=rfl
section
variable {α β γ δ ε ζ τ σ:Type}
theorem Z4 {c:Option τ × β × γ × α × δ}{W:α->β->γ->δ->Prop}{G:Option τ × β × γ × α × δ->Prop}(h:∃o i j g,c=(none,i,j,o,g)/\W o i j g) (k:∀o i j g,W o i j g->G (none,i,j,o,g)):G c:=by
 obtain⟨o,i,j,g,rfl,w⟩:=h
 exact k o i j g w
theorem Z5 {c:Option τ × β × γ × α × δ × ε}{W:α->β->γ->δ->ε->Prop}{t u:σ}{G:Option τ × β × γ × α × δ × ε->σ->Prop}(h:t=u/\∃o i j d e,c=(none,i,j,o,d,e)/\W o i j d e) (k:∀o i j d e,W o i j d e->G (none,i,j,o,d,e) u):G c t:=by
 obtain⟨rfl,o,i,j,d,e,rfl,w⟩:=h
 exact k o i j d e w
theorem V5 {c:Option τ × β × γ × α × δ × ε}{V:τ->Prop}{W:α->β->γ->δ->ε->Prop}{t u:σ}{G:Option τ × β × γ × α × δ × ε->σ->Prop}(h:t=u/\((∃r z,c=(some r,z)/\V r)\/∃o i j d e,c=(none,i,j,o,d,e)/\W o i j d e)) (k1:∀r z,V r->G (some r,z) u) (k:∀o i j d e,W o i j d e->G (none,i,j,o,d,e) u):G c t:=by
 obtain⟨rfl,⟨r,z,rfl,v⟩|⟨o,i,j,d,e,rfl,w⟩⟩:=h
 ·exact k1 r z v
 ·exact k o i j d e w
theorem Z6 {c:Option τ × β × γ × α × δ × ε × ζ}{P:Prop}{W:α->β->γ->δ->ε->ζ->Prop}{G:Option τ × β × γ × α × δ × ε × ζ->Prop}(h:P/\∃o i j g d e,c=(none,i,j,o,g,d,e)/\W o i j g d e) (k:P->∀o i j g d e,W o i j g d e->G (none,i,j,o,g,d,e)):G c:=by
 obtain⟨p,o,i,j,g,d,e,rfl,w⟩:=h
 exact k p o i j g d e w
end
section
variable {prog:Program}{w:World}{A:Around}{E:Value->Shared->Prop}{s:Shared}{κ:SortKind}{rk:Keyed->Nat}{Gd:Keyed->Prop}
noncomputable def Wj (rk:Keyed->Nat) (a b out:Array Keyed) (i j n:Nat):Prop:=MJ rk a b out i j/\0<i/\i<a.size/\1<j/\j<=b.size/\i+j+n<=a.size+b.size
theorem extr {o b:Array Keyed}{i:Nat}:o++(b.extract i i).reverse=o:=by simp[Nat.min_le_left]
theorem MJ.cast {a b out:Array Keyed}{i j i' j':Nat}(m:MJ rk a b out i j) (h1:i=i') (h2:j=j'):MJ rk a b out i' j':=by subst h1;subst h2;exact m
theorem zWt {a:Array Keyed}{n i:Nat}(h:n<=i):a.extract n i=a.extract n (n+(i-n)):=by rw[show n+(i-n)=i by omega]
theorem zXz (C:Cm prog w A s κ rk Gd) {st:SortSt}{a b:Array Keyed}{Q:Array Keyed->SortSt->Prop}(hk:kindOf st=κ) (ga:∀i,i<a.size->a[i]?=some (a.getD i dk)/\Gd (a.getD i dk)) (gb:∀i,i<b.size->b[i]?=some (b.getD i dk)/\Gd (b.getD i dk))
  (sa:So rk a 0 a.size) (sb:So rk b 0 b.size) (ha:0<a.size) (hb:0<b.size) (h1:ky rk b 0<=ky rk a 0) (h2:∀j,j<b.size->ky rk b j<=ky rk a (a.size-1))
  (h:∀r st',Sm st st'->Go rk a b r->Q r st'):wpS (model prog w) A E s (zF5 a b) Q st:=by
 rw[zW2]
 refine xj (wpS_lift (xX ⟨rfl,?_⟩))
 refine xj (zAg (ga (a.size-1) (by omega)).1 ?_)
 dsimp only
 have m0:=MJ.start sb sa ha h2
 have h3:∀j,j<a.size->ky rk b 0<=ky rk a j:=fun j hj=>xp h1 (sa 0 j (by omega) (by omega) hj)
 refine w_if (fun q1=>?_) fun q1=>?_
 ·have q1':=eq_of_beq q1
  exact xk (h _ _ .refl (m0.dn sa sb (.inl (by omega))))
 have q1':=zAi q1
 refine w_if (fun q2=>?_) fun q2=>?_
 ·have q2':=eq_of_beq q2
  exact xk (h _ _ .refl (m0.fst sa sb (by omega) h3))
 have q2':=zAi q2
 refine xj (wpS_get ?_)
 refine xj (vm (xU (I:=fun x c st'=>∃o i j g,c=(none,i,j,o,g)/\Sm st st'/\Wj rk a b o i j (x+1))
  (Q:=fun c st'=>Sm st st'/\∃r z,c=(some r,z)/\Go rk a b r) ?step ?fin ?init) ?post)
 case init=>exact⟨#[a.getD (a.size-1) dk],a.size-1,b.size,gallopOf st,rfl,.refl,m0,by omega,by omega,by omega,by omega,by omega⟩
 case post=>
  rintro c st' ⟨S,r,z,rfl,G⟩
  exact xk (h _ _ S G)
 case fin=>
  rintro c st' ⟨o,i,j,g,rfl,S,m,b0,b1,b2,b4,b3⟩
  exfalso;lia
 case step=>
  intro x c st' _ hx hh
  apply Z4 hh
  intro o i j g WW
  have S:=WW.1
  have W:=WW.2
  dsimp only
  refine xj (vm (xU (I:=fun y c st2=>st2=st'/\∃o i j d e,c=(none,i,j,o,d,e)/\Wj rk a b o i j (x+1+y))
   (Q:=fun c st2=>st2=st'/\((∃r z,c=(some r,z)/\Go rk a b r)\/∃o i j d e,c=(none,i,j,o,d,e)/\Wj rk a b o i j (x+2))) ?s1 ?f1 ⟨rfl,_,_,_,_,_,rfl,W⟩) ?p1)
  case f1=>
   rintro c st2 ⟨rfl,o,i,j,d,e,rfl,m,b0,b1,b2,b4,b3⟩
   exfalso;lia
  case s1=>
   intro y c st2 _ hy hh
   apply Z5 hh
   intro o i j d e WW
   have m:=WW.1
   have b0:=WW.2.1
   have b1:=WW.2.2.1
   have b2:=WW.2.2.2.1
   have b4:=WW.2.2.2.2.1
   have b3:=WW.2.2.2.2.2
   dsimp only
   refine xj (zAg (gb (j-1) (by omega)).1 (xj (zAg (ga (i-1) (by omega)).1 (xj (w_lt C (S.k.trans hk) (gb (j-1) (by omega)).2 (ga (i-1) (by omega)).2 ?_)))))
   by_cases q:rk (b.getD (j-1) dk)<rk (a.getD (i-1) dk)
   ·rw[xB q]
    dsimp only
    rw[xg rfl]
    refine xj (zAg (ga (i-1) (by omega)).1 ?_)
    have m':=(m.cast (by omega) rfl).pa sa (by omega) fun j' hj1 hj2=>xp (sb j' (j-1) (by omega) (by omega) (by omega)) (xN q)
    refine w_if (fun q3=>?_) fun q3=>?_
    ·have:=eq_of_beq q3
     exact xk ⟨rfl,.inl ⟨_,_,rfl,m'.dn sa sb (.inl (by omega))⟩⟩
    ·have q3':=zAi q3
     refine w_if (fun _=>?_) fun _=>?_
     ·exact xk ⟨rfl,.inr ⟨_,_,_,_,_,rfl,m',by omega,by omega,by omega,by omega,by omega⟩⟩
     ·exact xk ⟨rfl,_,_,_,_,_,rfl,m',by omega,by omega,by omega,by omega,by omega⟩
   ·rw[xy q]
    dsimp only
    rw[xh (by decide)]
    refine xj (zAg (gb (j-1) (by omega)).1 ?_)
    have m':=(m.cast rfl (by omega)).pb sb (by omega) fun j' hj1 hj2=>xp (sa j' (i-1) (by omega) (by omega) (by omega)) (Nat.not_lt.mp q)
    refine w_if (fun q3=>?_) fun q3=>?_
    ·have:=eq_of_beq q3
     exact xk ⟨rfl,.inl ⟨_,_,rfl,m'.fst sa sb (by omega) h3⟩⟩
    ·have q3':=zAi q3
     refine w_if (fun _=>?_) fun _=>?_
     ·exact xk ⟨rfl,.inr ⟨_,_,_,_,_,rfl,m',by omega,by omega,by omega,by omega,by omega⟩⟩
     ·exact xk ⟨rfl,_,_,_,_,_,rfl,m',by omega,by omega,by omega,by omega,by omega⟩
  case p1=>
   intro c st2 hh
   apply V5 hh
   ·intro r z G
    exact xk ⟨S,_,_,rfl,G⟩
   intro o i j d e W
   dsimp only
   refine xj (wpS_lift (xX ⟨rfl,?_⟩))
   refine xj (vm (xU (I:=fun y c st3=>Sm st st3/\∃o i j g d e,c=(none,i,j,o,g,d,e)/\Wj rk a b o i j (x+2+y))
    (Q:=fun c st3=>Sm st st3/\((∃r z,c=(some r,z)/\Go rk a b r)\/∃o i j g d e,c=(none,i,j,o,g,d,e)/\Wj rk a b o i j (x+2))) ?s2 ?f2 ⟨S,_,_,_,_,_,_,rfl,W⟩) ?p2)
   case f2=>
    rintro c st2 ⟨_,o,i,j,g,d,e,rfl,m,b0,b1,b2,b4,b3⟩
    exfalso;lia
   case p2=>
    rintro c st3 ⟨S3,⟨r,z,rfl,G⟩|⟨o,i,j,g,d,e,rfl,W⟩⟩
    ·exact xk ⟨S3,_,_,rfl,G⟩
    dsimp only
    rw[zCa]
    exact xj (vv (xk ⟨_,_,_,_,rfl,S3.gal _,W⟩))
   case s2=>
    intro y c st2 _ hy hh
    apply Z6 hh
    intro S2 o i j g d e WW
    have m:=WW.1
    have b0:=WW.2.1
    have b1:=WW.2.2.1
    have b2:=WW.2.2.2.1
    have b4:=WW.2.2.2.2.1
    have b3:=WW.2.2.2.2.2
    dsimp only
    generalize g-1=x1
    apply zPs (x:=x1) (g:=g)
    intro g'
    rw[zCa]
    refine xj (vv (xj (zAg (gb (j-1) (by omega)).1 (xj (zIx C (S2.k.trans hk) (gb (j-1) (by omega)).2 (fun z hz=>ga (0+z) (by omega)) (sa.sub (by omega) (by omega)) (by omega) fun n d1 d2 d3=>?_)))))
    have d4:∀z,z<n->z<a.size->ky rk a z<=ky rk b (j-1):=fun z z1 z2=>by
     have:=ah_t (d2 z z1)
     rwa[xh (by decide),vO]at this
    have d5:∀z,n<=z->z<i->ky rk b (j-1)<=ky rk a z:=fun z z1 z2=>by
     have:=ah_f (d3 z z1 z2)
     rw[xh (by decide),vO]at this
     exact xN this
    dsimp only
    have m1:=(m.cast (by omega) rfl).xa (k:=i-n) sa (by omega) fun i' j' e1 e2 e3 e4 e5=>xp (sb j' (j-1) (by omega) (by omega) (by omega)) (d5 i' e1 (by omega))
    rw[<- zWt (by omega)]at m1
    refine w_jr (Z:=0<n) ?_ ?_ ?_ ?_
    ·intro _ q7
     have:=eq_of_beq q7
     exact xk ⟨S2.gal _,.inl ⟨_,_,rfl,m1.dn sa sb (.inl (by omega))⟩⟩
    ·intro q1 q7
     have q7':=zAi q7
     omega
    ·intro q1
     obtain rfl:n=i:=by omega
     rw[extr]
     exact⟨by omega,id⟩
    ·intro q7'
     refine xj (zAg (gb (j-1) (by omega)).1 ?_)
     have m2:=(m1.cast rfl (by omega)).pb sb (by omega) fun j' hj1 hj2=>d4 j' (by omega) (by omega)
     refine w_if (fun q3=>?_) fun q3=>?_
     ·have:=eq_of_beq q3
      exact xk ⟨S2.gal _,.inl ⟨_,_,rfl,m2.fst sa sb (by omega) h3⟩⟩
     have q3':=zAi q3
     refine xj (zAg (ga (n-1) (by omega)).1 (xj (zIx C (S2.k.trans hk) (ga (n-1) (by omega)).2 (fun z hz=>gb (0+z) (by omega)) (sb.sub (by omega) (by omega)) (by omega) fun n2 c1 c2 c3=>?_)))
     have c4:∀z,z<n2->z<b.size->ky rk b z<=ky rk a (n-1):=fun z z1 z2=>by
      have:=ah_t (c2 z z1)
      rw[xg rfl,vO]at this
      exact xN this
     have c5:∀z,n2<=z->z<j-1->ky rk a (n-1)<=ky rk b z:=fun z z1 z2=>by
      have:=ah_f (c3 z z1 z2)
      rwa[xg rfl,vO]at this
     dsimp only
     have m3:=(m2.cast rfl (by omega)).xb (k:=j-1-n2) sb (by omega) fun i' j' e1 e2 e3 e4 e5=>xp (sa j' (n-1) (by omega) (by omega) (by omega)) (c5 i' e1 (by omega))
     rw[<- zWt (by omega)]at m3
     refine w_jq (Z:=1<n2) ?_ ?_ ?_ ?_ ?_
     ·intro _ q6
      have:=eq_of_beq q6
      exact xk ⟨S2.gal _,.inl ⟨_,_,rfl,m3.fst sa sb (by omega) h3⟩⟩
     ·intro _ q6 q8
      have:=eq_of_beq q8
      exact xk ⟨S2.gal _,.inl ⟨_,_,rfl,m3.dn sa sb (.inr (by omega))⟩⟩
     ·intro _ q6 q8
      have q6':=zAi q6
      have q8':=zAi q8
      omega
     ·intro q4
      obtain rfl:n2=j-1:=by omega
      rw[extr]
      exact⟨by omega,id⟩
     ·intro q6'
      refine xj (zAg (ga (n-1) (by omega)).1 ?_)
      have m4:=(m3.cast (by omega) rfl).pa sa (by omega) fun j' hj1 hj2=>c4 j' (by omega) (by omega)
      refine w_if (fun q5=>?_) fun q5=>?_
      ·have:=eq_of_beq q5
       exact xk ⟨S2.gal _,.inl ⟨_,_,rfl,m4.dn sa sb (.inl (by omega))⟩⟩
      have q5':=zAi q5
      refine w_if (fun _=>?_) fun _=>?_
      ·exact xk ⟨S2.gal _,.inr ⟨_,_,_,_,_,_,rfl,m4,by omega,by omega,by omega,by omega,by omega⟩⟩
      ·exact xk ⟨S2.gal _,_,_,_,_,_,_,rfl,m4,by omega,by omega,by omega,by omega,by omega⟩
end
end TM
namespace TM
open PySem PyProof.Rows
section
variable {rk:Keyed->Nat}
theorem zR2 {a:Array Keyed}{i n:Nat}(hn:i+n<=a.size):So rk a i (i+n) <-> Pw rk (ch a i n):=by
 have hl:(ch a i n).length=n:=by simp[ch];lia
 have hg:∀k (h:k<(ch a i n).length),(ch a i n)[k]=a.getD (i+k) dk:=fun k h=>by
  rw[getD_list a _ (by nofun)];simp[ch]
 constructor
 ·intro h
  rw[Pw,ye]
  intro x y hx hy hxy
  rw[hg,hg]
  exact h _ _ (by nofun) (by nofun) (by nofun)
 ·intro h x y h1 h2 h3
  rw[Pw,ye]at h
  by_cases e:x=y
  ·subst e;exact xi _
  ·have:=h (x-i) (y-i) (by nofun) (by nofun) (by nofun)
   rwa[hg,hg,show i+(x-i)=x by nofun,show i+(y-i)=y by nofun]at this
theorem zO3 (l:List Keyed) (base n:Nat) (a:Array Keyed) (h:base+n+l.length<=a.size):
  ((l.zipIdx n).foldl (fun a x=>a.setIfInBounds (base+x.2) x.1) a).toList=a.toList.take (base+n)++l++a.toList.drop (base+n+l.length):=by
 induction l generalizing n a with
 | nil=>simp
 | cons x t ih=>
  simp only[xH]at h
  rw[List.zipIdx_cons,List.foldl_cons,ih (n+1) _ (by rw[Array.size_setIfInBounds];lia)]
  have hlt:base+n<a.toList.length:=by rw[xW];lia
  have hT:(a.toList.take (base+n)).length=base+n:=by rw[vo];lia
  have e1:a.toList.drop (base+n+(x::t).length)=(a.toList.drop (base+n+1)).drop t.length:=by rw[List.drop_drop,xH];congr 1;lia
  have e2:(a.toList.take (base+n)++x::a.toList.drop (base+n+1)).take (base+n+1)=a.toList.take (base+n)++[x]:=by
   rw[List.take_append,hT,uc (by rw[hT];lia),show base+n+1-(base+n)=1 by nofun];rfl
  have e3:(a.toList.take (base+n)++x::a.toList.drop (base+n+1)).drop (base+n+1+t.length)=(a.toList.drop (base+n+1)).drop t.length:=by
   rw[List.drop_append,hT,List.drop_of_length_le (by rw[hT];lia),show base+n+1+t.length-(base+n)=t.length+1 by nofun];rfl
  rw[Array.toList_setIfInBounds,show base+(n+1)=base+n+1 by nofun,List.set_eq_take_append_cons_drop,xg hlt,e1]
  dsimp only
  rw[e2,e3,xv (a.toList.take (base+n))];rfl
end
theorem zW3 (i:Nat):mergeAt' i=(do
 let t <- get
 let (some (p,m,e),some (q,n,_)):=((pendingOf t)[i]?,(pendingOf t)[i+1]?)|unsupported "internal:list.sort.pending"
 set (setPending t (((pendingOf t).setIfInBounds i (p,m+n,e)).eraseIdxIfInBounds (i+1)))
 let some k <- gallop' false (<- elem' (arrOf t) q) (arrOf t) p m 0|return false
 let (p,m):=(p+k,m-k)
 if m == 0 then return true
 let some n <- gallop' true (<- elem' (arrOf t) (p+m-1)) (arrOf t) q n (n-1)|return false
 if n == 0 then return true
 let x:=(arrOf t).extract p q
 let y:=(arrOf t).extract q (q+n)
 let r <- if m<=n then zF4 x y else zF5 x y
 modify fun u=>setArr u (r.toList.zipIdx.foldl (fun a (v,j)=>a.setIfInBounds (p+j) v) (arrOf u))
 return (failedOf (<- get)).isNone):=rfl
section
variable {prog:Program}{w:World}{A:Around}{E:Value->Shared->Prop}{s:Shared}{κ:SortKind}{a₀:Array Keyed}{rk:Keyed->Nat}{Gd:Keyed->Prop}
theorem zXx {t st:SortSt}{Q:PUnit->SortSt->Prop}(h:Q ⟨⟩ t):wpS (model prog w) A E s (set t:StateT SortSt Sem PUnit) Q st:=by
 unfold wpS
 rw[StateT.run_set]
 exact xf ⟨rfl,h⟩
theorem zOj {P S X Y T R:List Keyed}(h:R.Perm (X++Y)):(P++(S++(R++T))).Perm (P++(S++(X++(Y++T)))):=by
 rw[<- xv X]
 exact((h.append_right _).append_left _).append_left _
theorem mrg (rk:Keyed->Nat) {a:Array Keyed}{p k q m n l:Nat}{r:Array Keyed}(hpq:q=p+m) (hk:k<m) (hl:l<=n) (hs:q+n<=a.size) (s1:So rk a p q) (s2:So rk a q (q+n))
  (d4:∀z,p<=z->z<p+k->ky rk a z<=ky rk a q) (c5:∀z,q+l<=z->z<q+n->ky rk a (q-1)<=ky rk a z) (hn:1<=n) (G:Go rk (a.extract (p+k) q) (a.extract q (q+l)) r):
  let a':=r.toList.zipIdx.foldl (fun a x=>a.setIfInBounds (p+k+x.2) x.1) a
  a'.Perm a/\Out p (q+n) a a'/\So rk a' p (q+n):=by
 intro a'
 have ex:(a.extract (p+k) q).toList=ch a (p+k) (m-k):=by rw[<- zCz];congr 2;lia
 have ey:(a.extract q (q+l)).toList=ch a q l:=zCz _ _ _
 obtain⟨g1,g2⟩:=G
 rw[ex,ey]at g1
 have lx:(ch a (p+k) (m-k)).length=m-k:=by simp[ch];lia
 have ly:(ch a q l).length=l:=by simp[ch];lia
 have lr:r.toList.length=m-k+l:=by rw[g1.length_eq,xG,lx,ly]
 have e':a'.toList=a.toList.take (p+k)++r.toList++a.toList.drop (p+k+r.toList.length):=zO3 r.toList (p+k) 0 a (by nofun)
 have eP:=zDe a p k
 have eT:a.toList.drop (p+k+r.toList.length)=ch a (q+l) (n-l)++a.toList.drop (q+n):=by
  rw[show p+k+r.toList.length=q+l by nofun,zBh a (q+l) (n-l),show q+l+(n-l)=q+n by nofun]
 have ea:a.toList=a.toList.take p++(ch a p k++(ch a (p+k) (m-k)++(ch a q l++(ch a (q+l) (n-l)++a.toList.drop (q+n))))):=by
  conv=>lhs;rw[<- vA p a.toList]
  rw[zBh a p k,zBh a (p+k) (m-k),show p+k+(m-k)=q by nofun,zBh a q l,zBh a (q+l) (n-l),show q+l+(n-l)=q+n by nofun]
 have e2:a'.toList=a.toList.take p++(ch a p k++(r.toList++(ch a (q+l) (n-l)++a.toList.drop (q+n)))):=by
  rw[e',eP,eT];simp only[xv]
 have hsz:a'.size=a.size:=by
  rw[<- xW,<- xW,e2]
  conv=>rhs;rw[ea]
  simp only[xG,lr,lx,ly];lia
 have lP:(a.toList.take p).length=p:=by rw[vo,xW];lia
 have lS:(ch a p k).length=k:=by simp[ch];lia
 have lU:(ch a (q+l) (n-l)).length=n-l:=by simp[ch];lia
 refine⟨?_,?_,?_⟩
 ·rw[Array.perm_iff_toList_perm,e2]
  conv=>rhs;rw[ea]
  exact zOj g1
 ·intro z hz
  rw[<- uo,<- uo,e2]
  conv=>rhs;rw[ea]
  rcases hz with hz|hz
  ·rw[vf (by nofun),vf (by nofun)]
  ·rw[<- xv,<- xv,<- xv,vw (by simp only[xG,lP,lS,lr,lU];lia)]
   rw[<- xv,<- xv,<- xv,<- xv,vw (by simp only[xG,lP,lS,lx,ly,lU];lia)]
   simp only[xG,lP,lS,lr,lU,lx,ly]
   congr 1;lia
 ·rw[show q+n=p+(m+n) by nofun,zR2 (by nofun)]
  have ec:ch a' p (m+n)=ch a p k++(r.toList++ch a (q+l) (n-l)):=by
   rw[ch,e2,List.drop_append_of_le_length (by nofun),List.drop_of_length_le (by nofun),uv,<- xv,<- xv,List.take_append_of_le_length (by simp only[xG,lS,lr,lU];lia),
    uc (by simp only[xG,lS,lr,lU];lia),xv]
  rw[ec]
  have inR:∀x∈r.toList,x∈ch a (p+k) (m-k)\/x∈ch a q l:=fun x hx=>xV.mp (g1.mem_iff.mp hx)
  refine Pw.app ((zR2 (by nofun)).mp (s1.sub (by nofun) (by nofun))) (Pw.app g2 ((zR2 (by nofun)).mp (s2.sub (by nofun) (by nofun))) fun x hx y hy=>?_) fun x hx y hy=>?_
  ·obtain⟨j,j1,j2,j3,rfl⟩:=zB3 hy
   rcases inR x hx with h|h
   ·obtain⟨z,z1,z2,z3,rfl⟩:=zB3 h
    exact xp (s1 z (q-1) (by nofun) (by nofun) (by nofun)) (c5 j (by nofun) (by nofun))
   ·obtain⟨z,z1,z2,z3,rfl⟩:=zB3 h
    exact s2 z j (by nofun) (by nofun) (by nofun)
  ·obtain⟨j,j1,j2,j3,rfl⟩:=zB3 hx
   rcases xV.mp hy with hy|hy
   ·rcases inR y hy with h|h
    ·obtain⟨z,z1,z2,z3,rfl⟩:=zB3 h
     exact s1 j z (by nofun) (by nofun) (by nofun)
    ·obtain⟨z,z1,z2,z3,rfl⟩:=zB3 h
     exact xp (d4 j (by nofun) (by nofun)) (s2 q z (by nofun) (by nofun) (by nofun))
   ·obtain⟨z,z1,z2,z3,rfl⟩:=zB3 hy
    exact xp (d4 j (by nofun) (by nofun)) (s2 q z (by nofun) (by nofun) (by nofun))
theorem zBe {a:Array Keyed}{i j z:Nat}(hz:i+z<j) (hj:j<=a.size):(a.extract i j).getD z dk=a.getD (i+z) dk:=by
 apply zM4
 rw[Array.getElem?_extract_of_lt (by nofun)]
 exact(getElem?_pos a (i+z) (by nofun)).symm
theorem So.ext {a:Array Keyed}{i j:Nat}(h:So rk a i j) (hij:i<=j) (hj:j<=a.size):So rk (a.extract i j) 0 (a.extract i j).size:=fun x y h1 h2 h3=>by
 rw[Array.size_extract]at h3
 unfold ky
 rw[zBe (by nofun) hj,zBe (by nofun) hj]
 exact h _ _ (by nofun) (by nofun) (by nofun)
theorem zIe {a:Array Keyed}{i j:Nat}(hj:j<=a.size) (g:∀i,i<a.size->a[i]?=some (a.getD i dk)/\Gd (a.getD i dk)) (z:Nat) (hz:z<(a.extract i j).size):(a.extract i j)[z]?=some ((a.extract i j).getD z dk)/\Gd ((a.extract i j).getD z dk):=by
 rw[Array.size_extract]at hz
 have h1:i+z<a.size:=by nofun
 rw[zBe (by nofun) hj,Array.getElem?_extract_of_lt (by nofun),<- getElem?_pos a (i+z) h1]
 exact g _ h1
theorem zY0 (C:Cm prog w A s κ rk Gd) (hg:∀x∈a₀,Gd x) {st:SortSt}{i p m e q n e':Nat}{Q:Bool->SortSt->Prop}(B:SB κ a₀ st) (hp:(pendingOf st)[i]?=some (p,m,e)) (hq:(pendingOf st)[i+1]?=some (q,n,e')) (hpq:q=p+m) (hm:1<=m) (hn:1<=n) (hs:q+n<=a₀.size)
  (s1:So rk (arrOf st) p q) (s2:So rk (arrOf st) q (q+n))
  (h:∀st',SB κ a₀ st'->pendingOf st'=(((pendingOf st).setIfInBounds i (p,m+n,e)).eraseIdxIfInBounds (i+1))->Out p (q+n) (arrOf st) (arrOf st')->So rk (arrOf st') p (q+n)->Q true st'):wpS (model prog w) A E s (mergeAt' i) Q st:=by
 rw[zW3]
 refine xj (wpS_get ?_)
 rw[hp,hq]
 dsimp only
 have ag:∀i,i<(arrOf st).size->(arrOf st)[i]?=some ((arrOf st).getD i dk)/\Gd ((arrOf st).getD i dk):=fun i hi=>zU4 B.perm hg (by rw[<- B.size];exact hi)
 have hs':q+n<=(arrOf st).size:=by rw[B.size];exact hs
 have B1:SB κ a₀ (setPending st (((pendingOf st).setIfInBounds i (p,m+n,e)).eraseIdxIfInBounds (i+1))):=⟨B.perm,B.kind,B.failed⟩
 refine xj (zXx (xj (zAg (ag q (by nofun)).1 (xj (zIx C B.kind (ag q (by nofun)).2 (fun z hz=>ag (p+z) (by nofun)) (s1.sub (by nofun) (by nofun)) (by nofun) fun k d1 d2 d3=>?_)))))
 have d4:∀z,p<=z->z<p+k->ky rk (arrOf st) z<=ky rk (arrOf st) q:=fun z z1 z2=>by
  have:=ah_t (d2 (z-p) (by nofun))
  rwa[xh (by decide),show p+(z-p)=z by nofun]at this
 have d5:∀z,p+k<=z->z<p+m->ky rk (arrOf st) q<=ky rk (arrOf st) z:=fun z z1 z2=>by
  have:=ah_f (d3 (z-p) (by nofun) (by nofun))
  rw[xh (by decide),show p+(z-p)=z by nofun]at this
  exact xN this
 dsimp only
 refine w_if (fun q1=>?_) fun q1=>?_
 ·have q1':=eq_of_beq q1
  refine xk (h _ B1 rfl .refl fun x y h1 h2 h3=>?_)
  show ky rk (arrOf st) x<=ky rk (arrOf st) y
  by_cases hx:x<q
  ·by_cases hy:y<q
   ·exact s1 x y h1 h2 hy
   ·exact xp (d4 x h1 (by nofun)) (s2 q y (by nofun) (by nofun) h3)
  ·exact s2 x y (by nofun) h2 h3
 have q1':=zAi q1
 have eL:p+k+(m-k)-1=q-1:=by nofun
 rw[eL]
 refine xj (zAg (ag (q-1) (by nofun)).1 (xj (zIx C B.kind (ag (q-1) (by nofun)).2 (fun z hz=>ag (q+z) (by nofun)) s2 (by nofun) fun l c1 c2 c3=>?_)))
 have c4:∀z,q<=z->z<q+l->ky rk (arrOf st) z<=ky rk (arrOf st) (q-1):=fun z z1 z2=>by
  have:=ah_t (c2 (z-q) (by nofun))
  rw[xg rfl,show q+(z-q)=z by nofun]at this
  exact xN this
 have c5:∀z,q+l<=z->z<q+n->ky rk (arrOf st) (q-1)<=ky rk (arrOf st) z:=fun z z1 z2=>by
  have:=ah_f (c3 (z-q) (by nofun) (by nofun))
  rwa[xg rfl,show q+(z-q)=z by nofun]at this
 dsimp only
 refine w_if (fun q2=>?_) fun q2=>?_
 ·have q2':=eq_of_beq q2
  refine xk (h _ B1 rfl .refl fun x y h1 h2 h3=>?_)
  show ky rk (arrOf st) x<=ky rk (arrOf st) y
  by_cases hx:x<q
  ·by_cases hy:y<q
   ·exact s1 x y h1 h2 hy
   ·exact xp (s1 x (q-1) h1 (by nofun) (by nofun)) (c5 y (by nofun) h3)
  ·exact s2 x y (by nofun) h2 h3
 have q2':=zAi q2
 have sx:((arrOf st).extract (p+k) q).size=q-(p+k):=by rw[Array.size_extract];lia
 have sy:((arrOf st).extract q (q+l)).size=l:=by rw[Array.size_extract];lia
 have P1:ky rk ((arrOf st).extract q (q+l)) 0<=ky rk ((arrOf st).extract (p+k) q) 0:=by
  unfold ky
  rw[zBe (by nofun) (by nofun),zBe (by nofun) (by nofun)]
  exact d5 (p+k+0) (by nofun) (by nofun)
 have P2:∀j,j<((arrOf st).extract q (q+l)).size->ky rk ((arrOf st).extract q (q+l)) j<=ky rk ((arrOf st).extract (p+k) q) (((arrOf st).extract (p+k) q).size-1):=fun j hj=>by
  rw[sx]
  unfold ky
  rw[zBe (by nofun) (by nofun),zBe (by nofun) (by nofun)]
  have:=c4 (q+j) (by nofun) (by nofun)
  rwa[show p+k+(q-(p+k)-1)=q-1 by nofun]
 refine w_if (fun q3=>?_) fun q3=>?_
 all_goals
  first
  | refine xj (zXy C B.kind (zIe (by nofun) ag) (zIe (by nofun) ag) (So.ext (s1.sub (by nofun) (by nofun)) (by nofun) (by nofun)) (So.ext (s2.sub (by nofun) (by nofun)) (by nofun) (by nofun)) (by nofun) (by nofun) P1 P2 fun r st' S G=>?_)
  | refine xj (zXz C B.kind (zIe (by nofun) ag) (zIe (by nofun) ag) (So.ext (s1.sub (by nofun) (by nofun)) (by nofun) (by nofun)) (So.ext (s2.sub (by nofun) (by nofun)) (by nofun) (by nofun)) (by nofun) (by nofun) P1 P2 fun r st' S G=>?_)
  have K:=mrg rk hpq (by nofun) c1 hs' s1 s2 d4 c5 hn G
  have eA:=S.a
  refine xj (vv (xj (wpS_get ?_)))
  have eF:=S.f.trans B.failed
  rw[show(failedOf (setArr st' _))=none from eF]
  refine xk (h _ ⟨?_,S.k.trans B.kind,eF⟩ S.p ?_ ?_)
  ·show(List.foldl _ (arrOf st') _).Perm a₀
   rw[eA];exact K.1.trans B.perm
  ·show Out p (q+n) (arrOf st) (List.foldl _ (arrOf st') _)
   rw[eA];exact K.2.1
  ·show So rk (List.foldl _ (arrOf st') _) p (q+n)
   rw[eA];exact K.2.2
end
end TM
namespace TM
open PySem PyProof.Rows
noncomputable abbrev Rn:=Nat × Nat × Nat
noncomputable def Pd (rk:Keyed->Nat) (a:Array Keyed):List Rn->Nat->Nat->Prop
 | [],lo,hi=>lo=hi
 | x::t,lo,hi=>x.1=lo/\1<=x.2.1/\So rk a lo (lo+x.2.1)/\Pd rk a t (lo+x.2.1) hi
section
variable {rk:Keyed->Nat}{a b:Array Keyed}
theorem Pd.le {p:List Rn}{lo hi:Nat}(h:Pd rk a p lo hi):lo+p.length<=hi:=by
 induction p generalizing lo with
 | nil=>simp only[Pd]at h;simp;lia
 | cons x t ih=>have:=ih h.2.2.2;have:=h.2.1;simp only[xH];lia
theorem Pd.app {p q:List Rn}{lo hi:Nat}:Pd rk a (p++q) lo hi <-> ∃m,Pd rk a p lo m/\Pd rk a q m hi:=by
 induction p generalizing lo with
 | nil=>simp[Pd]
 | cons x t ih=>
  simp only[uH,Pd,ih]
  constructor
  ·rintro⟨h1,h2,h3,m,h4,h5⟩;exact⟨m,⟨h1,h2,h3,h4⟩,h5⟩
  ·rintro⟨m,⟨h1,h2,h3,h4⟩,h5⟩;exact⟨h1,h2,h3,m,h4,h5⟩
theorem Pd.out {p:List Rn}{lo hi x y:Nat}(h:Pd rk a p lo hi) (o:Out x y a b) (hd:hi<=x\/y<=lo):Pd rk b p lo hi:=by
 induction p generalizing lo with
 | nil=>exact h
 | cons z t ih=>
  have l:=Pd.le h.2.2.2
  exact⟨h.1,h.2.1,h.2.2.1.out o (by nofun),ih h.2.2.2 (by nofun)⟩
theorem Pd.pw {p:List Rn}{lo hi:Nat}{x y:Rn}(h:Pd rk a (p++[x]) lo hi) (h1:x.1=y.1) (h2:x.2.1=y.2.1):Pd rk a (p++[y]) lo hi:=by
 obtain⟨m,k1,k2⟩:=Pd.app.mp h
 refine Pd.app.mpr ⟨m,k1,?_⟩
 simp only[Pd]at k2 ⊢
 rw[<- h1,<- h2];exact k2
theorem Pd.one {lo hi n pw:Nat}(h1:1<=n) (h:So rk a lo (lo+n)) (e:hi=lo+n):Pd rk a [(lo,n,pw)] lo hi:=⟨rfl,h1,h,e.symm⟩
end
section
variable {prog:Program}{w:World}{A:Around}{E:Value->Shared->Prop}{s:Shared}{κ:SortKind}{a₀:Array Keyed}{rk:Keyed->Nat}{Gd:Keyed->Prop}
theorem zLj (p:List Rn) (x:Rn) (f:Rn->Rn) (z:Rn):((p++[x]).toArray.modify ((p++[x]).toArray.size-1) f).push z=(p++[f x]++[z]).toArray:=by
 apply u4.mp
 rw[Array.toList_push,Array.toList_modify]
 have:∀q:List Rn,(q++[x]).modify q.length f=q++[f x]:=fun q=>by
  induction q with
  | nil=>rfl
  | cons y t ih=>rw[uH,xH,List.modify_succ_cons,ih];rfl
 rw[show(p++[x]).toArray.size-1=p.length by simp,this]
theorem w_mp (C:Cm prog w A s κ rk Gd) (hg:∀x∈a₀,Gd x) {st:SortSt}{i lo:Nat}{p:List Rn}{Q:Bool->SortSt->Prop}(B:SB κ a₀ st) (hp:pendingOf st=p.toArray) (hi:i+1<p.length) (hP:Pd rk (arrOf st) p 0 lo) (hs:lo<=a₀.size)
  (h:∀st' p',SB κ a₀ st'->pendingOf st'=p'.toArray->p'.length+1=p.length->Pd rk (arrOf st') p' 0 lo->Out 0 lo (arrOf st) (arrOf st')->Q true st'):wpS (model prog w) A E s (mergeAt' i) Q st:=by
 obtain⟨u,x,y,v,rfl,hu⟩:∃u x y v,p=u++x::y::v/\u.length=i:=by
  refine⟨p.take i,p[i],p[i+1],p.drop (i+2),?_,by rw[vo];lia⟩
  rw[List.getElem_cons_drop,List.getElem_cons_drop,vA]
 obtain⟨p,m,e⟩:=x
 obtain⟨q,n,e'⟩:=y
 obtain⟨mid,k1,k2⟩:=Pd.app.mp hP
 obtain⟨rfl,hm,s1,rfl,hn,s2,k3⟩:=k2
 dsimp only at hm s1 hn s2 k3
 have l3:=k3.le
 refine zY0 C hg B (e:=e) (e':=e') (by rw[hp];simp[<- hu]) (by rw[hp];simp[<- hu]) rfl hm hn (by nofun) s1 s2 fun st' B' hp' o s'=>h st' (u++(p,m+n,e)::v) B' ?_ (by simp only[xG,xH];lia) ?_ (o.mono (by nofun) (by nofun))
 ·rw[hp',hp]
  simp[<- hu,List.eraseIdx_append]
  intro hh;lia
 ·refine Pd.app.mpr ⟨p,k1.out o (by nofun),rfl,by dsimp only;lia,by dsimp only;rw[<- Nat.add_assoc];exact s',?_⟩
  dsimp only
  rw[<- Nat.add_assoc]
  exact k3.out o (by nofun)
theorem w_sr (C:Cm prog w A s κ rk Gd) (hz:a₀.size<=2 ^ 21) (hg:∀x∈a₀,Gd x) {st:SortSt}{Q:Unit->SortSt->Prop}(B:SB κ a₀ st) (hp:pendingOf st=#[])
  (h:∀st',SB κ a₀ st'->So rk (arrOf st') 0 a₀.size->Q () st'):wpS (model prog w) A E s sortRuns' Q st:=by
 rw[sortRuns'_eq]
 refine xj (wpS_get ?_)
 dsimp only
 rw[B.size]
 generalize minRun' a₀.size a₀.size 0=mr
 refine xj (vm (xU (I:=fun x c st'=>∃lo p,c=(none,lo)/\SB κ a₀ st'/\pendingOf st'=List.toArray p/\Pd rk (arrOf st') p 0 lo/\lo<=a₀.size/\(x<=lo\/a₀.size<=lo))
  (Q:=fun c st'=>∃p lo,c=(none,lo)/\SB κ a₀ st'/\pendingOf st'=List.toArray p/\Pd rk (arrOf st') p 0 a₀.size) ?step ?fin ?init) ?post)
 case init=>exact⟨0,[],rfl,B,hp,rfl,by nofun,.inl (by nofun)⟩
 case fin=>
  rintro c st' ⟨lo,p,rfl,B',hp',hP,h1,h2⟩
  rw[show lo=a₀.size by nofun]at hP ⊢
  exact⟨p,_,rfl,B',hp',hP⟩
 case post=>
  rintro c st' ⟨p,lo,rfl,B',hp',hP⟩
  dsimp only
  refine xj (vm (xU (I:=fun x c st2=>∃p,c=(none,())/\SB κ a₀ st2/\pendingOf st2=List.toArray p/\Pd rk (arrOf st2) p 0 a₀.size/\(p.length<=1\/p.length+x<=a₀.size))
   (Q:=fun c st2=>∃p,c=(none,())/\SB κ a₀ st2/\pendingOf st2=List.toArray p/\Pd rk (arrOf st2) p 0 a₀.size/\p.length<=1) ?s2 ?f2 ?i2) ?p2)
  case i2=>have:=hP.le;exact⟨p,rfl,B',hp',hP,.inr (by nofun)⟩
  case f2=>
   rintro c st2 ⟨p,rfl,B2,hp2,hP2,hl⟩
   exact⟨p,rfl,B2,hp2,hP2,by nofun⟩
  case p2=>
   rintro c st2 ⟨p,rfl,B2,hp2,hP2,hl⟩
   refine xk (h st2 B2 ?_)
   match p,hP2,hl with
   | [],hP2,_=>intro i j h1 h2 h3;have:(0:Nat)=a₀.size:=hP2;lia
   | [(x1,x2,x3)],hP2,_=>
    obtain⟨_,_,k1,k2⟩:=hP2
    have:=k2
    rw[<- this];exact k1
  case s2=>
   rintro x c st2 _ hx ⟨p,rfl,B2,hp2,hP2,hl⟩
   refine xj (wpS_get ?_)
   rw[hp2]
   refine w_if (fun q=>?_) fun q=>?_
   ·exact xk ⟨p,rfl,B2,hp2,hP2,by simpa using q⟩
   have q':¬ p.length<=1:=by simpa using q
   refine xj (w_mp C hg B2 hp2 ?_ hP2 (xi _) fun st3 p3 B3 hp3 hl3 hP3 o3=>?_)
   ·simp only[xq]
    repeat' split
    all_goals lia
   ·exact xk ⟨p3,rfl,B3,hp3,hP3,by nofun⟩
 case step=>
  rintro x c st' _ hx ⟨lo,p,rfl,B',hp',hP,h1,h2⟩
  dsimp only
  refine w_if (fun q1=>?_) fun q1=>?_
  ·rw[show lo=a₀.size by nofun]at hP ⊢
   exact xk ⟨p,_,rfl,B',hp',hP⟩
  refine xj (w_count C hg (by nofun) (by nofun) B' fun m st2 R2 hm1 hm2 hs2=>?_)
  dsimp only
  have hP2:=hP.out R2.out (.inl (xi _))
  have B2:=R2.b
  have hp2:=R2.pend.trans hp'
  refine w_if (fun q2=>?_) fun q2=>?_
  ·refine xj (wpS_lift (xX ⟨rfl,?_⟩))
   refine xj (zY1 C hg (by nofun) (by nofun) B2 hs2 fun st3 R3 hs3=>?_)
   have hP3:=hP2.out R3.out (.inl (xi _))
   have B3:=R3.b
   have hp3:=R3.pend.trans hp2
   rw[xh (by decide)]
   refine xj (wpS_get ?_)
   rw[hp3]
   by_cases hpn:p=[]
   ·subst hpn
    have e0:=hP3
    subst e0
    refine xj (vv (xk ⟨_,[(0,min (a₀.size-0) mr,0)],rfl,⟨B3.perm,B3.kind,B3.failed⟩,?_,Pd.one (by nofun) hs3 rfl,by nofun,.inl (by nofun)⟩))
    show(pendingOf st3).push _=_
    rw[hp3];rfl
   obtain⟨p0,x0,rfl⟩:∃p0 x0,p=p0++[x0]:=⟨p.dropLast,p.getLast hpn,(u5 hpn).symm⟩
   rw[show(p0++[x0]).toArray.back?=some x0 by simp]
   dsimp only
   refine xj (vm (xU (I:=fun y c st4=>∃p,c=(none,())/\p≠[]/\SB κ a₀ st4/\pendingOf st4=List.toArray p/\Pd rk (arrOf st4) p 0 lo/\So rk (arrOf st4) lo (lo+min (a₀.size-lo) mr))
    (Q:=fun c st4=>∃p,c=(none,())/\p≠[]/\SB κ a₀ st4/\pendingOf st4=List.toArray p/\Pd rk (arrOf st4) p 0 lo/\So rk (arrOf st4) lo (lo+min (a₀.size-lo) mr)) ?s3 ?f3 ?i3) ?p3)
   case i3=>exact⟨_,rfl,hpn,B3,hp3,hP3,hs3⟩
   case f3=>rintro c st4 hh;exact hh
   case p3=>
    rintro c st4 ⟨p4,rfl,hn4,B4,hp4,hP4,hs4⟩
    dsimp only
    obtain⟨p5,x5,rfl⟩:∃p0 x0,p4=p0++[x0]:=⟨p4.dropLast,p4.getLast hn4,(u5 hn4).symm⟩
    generalize hpw:power' _ _ _ _=pw
    refine xj (vv (xj (vv (xk ⟨_,p5++[(x5.1,x5.2.1,pw)]++[(lo,min (a₀.size-lo) mr,0)],rfl,⟨B4.perm,B4.kind,B4.failed⟩,?_,Pd.app.mpr ⟨lo,hP4.pw rfl rfl,Pd.one (by nofun) hs4 rfl⟩,by nofun,.inl (by nofun)⟩))))
    show((pendingOf st4).modify ((pendingOf st4).size-1) _).push _=_
    rw[hp4]
    exact zLj _ _ _ _
   case s3=>
    rintro y c st4 _ hy ⟨p4,rfl,hn4,B4,hp4,hP4,hs4⟩
    refine xj (wpS_get ?_)
    rw[hp4]
    generalize hz:(if p4.toArray.size > 1 then p4.toArray[p4.toArray.size-2]? else none)=z
    match z,hz with
    | none,_=>exact xk ⟨p4,rfl,hn4,B4,hp4,hP4,hs4⟩
    | some (z1,z2,z3),hz=>
     dsimp only
     have hl4:p4.length > 1:=by
      by_cases q:p4.toArray.size > 1
      ·simpa using q
      ·rw[xh q]at hz;cases hz
     refine w_if (fun q=>?_) fun q=>?_
     ·exact xk ⟨p4,rfl,hn4,B4,hp4,hP4,hs4⟩
     ·refine xj (w_mp C hg B4 hp4 (by simp only[xq];lia) hP4 h1 fun st5 p5 B5 hp5 hl5 hP5 o5=>?_)
      exact xk ⟨p5,rfl,fun e=>by subst e;simp at hl5;lia,B5,hp5,hP5,hs4.out o5 (by nofun)⟩
  ·skip
   refine xj (wpS_get ?_)
   rw[hp2]
   by_cases hpn:p=[]
   ·subst hpn
    have e0:=hP2
    subst e0
    refine xj (vv (xk ⟨_,[(0,m,0)],rfl,⟨B2.perm,B2.kind,B2.failed⟩,?_,Pd.one (by nofun) hs2 rfl,by nofun,.inl (by nofun)⟩))
    show(pendingOf st2).push _=_
    rw[hp2];rfl
   obtain⟨p0,x0,rfl⟩:∃p0 x0,p=p0++[x0]:=⟨p.dropLast,p.getLast hpn,(u5 hpn).symm⟩
   rw[show(p0++[x0]).toArray.back?=some x0 by simp]
   dsimp only
   refine xj (vm (xU (I:=fun y c st4=>∃p,c=(none,())/\p≠[]/\SB κ a₀ st4/\pendingOf st4=List.toArray p/\Pd rk (arrOf st4) p 0 lo/\So rk (arrOf st4) lo (lo+m))
    (Q:=fun c st4=>∃p,c=(none,())/\p≠[]/\SB κ a₀ st4/\pendingOf st4=List.toArray p/\Pd rk (arrOf st4) p 0 lo/\So rk (arrOf st4) lo (lo+m)) ?s3 ?f3 ?i3) ?p3)
   case i3=>exact⟨_,rfl,hpn,B2,hp2,hP2,hs2⟩
   case f3=>rintro c st4 hh;exact hh
   case p3=>
    rintro c st4 ⟨p4,rfl,hn4,B4,hp4,hP4,hs4⟩
    dsimp only
    obtain⟨p5,x5,rfl⟩:∃p0 x0,p4=p0++[x0]:=⟨p4.dropLast,p4.getLast hn4,(u5 hn4).symm⟩
    generalize hpw:power' _ _ _ _=pw
    refine xj (vv (xj (vv (xk ⟨_,p5++[(x5.1,x5.2.1,pw)]++[(lo,m,0)],rfl,⟨B4.perm,B4.kind,B4.failed⟩,?_,Pd.app.mpr ⟨lo,hP4.pw rfl rfl,Pd.one (by nofun) hs4 rfl⟩,by nofun,.inl (by nofun)⟩))))
    show((pendingOf st4).modify ((pendingOf st4).size-1) _).push _=_
    rw[hp4]
    exact zLj _ _ _ _
   case s3=>
    rintro y c st4 _ hy ⟨p4,rfl,hn4,B4,hp4,hP4,hs4⟩
    refine xj (wpS_get ?_)
    rw[hp4]
    generalize hz:(if p4.toArray.size > 1 then p4.toArray[p4.toArray.size-2]? else none)=z
    match z,hz with
    | none,_=>exact xk ⟨p4,rfl,hn4,B4,hp4,hP4,hs4⟩
    | some (z1,z2,z3),hz=>
     dsimp only
     have hl4:p4.length > 1:=by
      by_cases q:p4.toArray.size > 1
      ·simpa using q
      ·rw[xh q]at hz;cases hz
     refine w_if (fun q=>?_) fun q=>?_
     ·exact xk ⟨p4,rfl,hn4,B4,hp4,hP4,hs4⟩
     ·refine xj (w_mp C hg B4 hp4 (by simp only[xq];lia) hP4 h1 fun st5 p5 B5 hp5 hl5 hP5 o5=>?_)
      exact xk ⟨p5,rfl,fun e=>by subst e;simp at hl5;lia,B5,hp5,hP5,hs4.out o5 (by nofun)⟩
end
end TM
namespace EK
open PySem
open DS (D)
inductive A2 {α β:Type}(R:α->β->Prop):List α->List β->Prop where
 | nil:A2 R [] []
 | cons {a:α}{b:β}{l:List α}{m:List β}:R a b->A2 R l m->A2 R (a::l) (b::m)
theorem A2.length {α β:Type}{R:α->β->Prop}{l:List α}{m:List β}(h:A2 R l m):l.length=m.length:=by
 induction h with
 | nil=>rfl
 | cons _ _ ih=>simp[ih]
theorem A2.imp {α β:Type}{R R':α->β->Prop}{l:List α}{m:List β}(h:A2 R l m) (k:∀a b,R a b->R' a b):A2 R' l m:=by
 induction h with
 | nil=>exact .nil
 | cons h _ ih=>exact .cons (k _ _ h) ih
noncomputable def Ek (h:Heap):Nat->D->Value->Prop
 | 0,d,v=>∃i t,d=.int i/\v=.int i t
 | n+1,d,v=>∃ds a o items k,d=.tup ds/\v=.ref a/\h.get? a=some o/\o.cls=.type "tuple"/\o.data=.seq items k/\A2 (Ek h n) ds items.toList
theorem Ek.kept {h h':Heap}:∀{n:Nat}{d:D}{v:Value},Ek h n d v->(∀a o,h.get? a=some o->o.cls=.type "tuple"->h'.get? a=some o)->Ek h' n d v
 | 0,_,_,x,_=>x
 | n+1,_,_,⟨ds,a,o,items,k,e1,e2,h1,h2,h3,r⟩,kp=>⟨ds,a,o,items,k,e1,e2,kp a o h1 h2,h2,h3,r.imp fun _ _ q=>Ek.kept q kp⟩
theorem A2.inj {α β:Type}{R R':α->β->Prop}{l l':List α}{m:List β}(h:A2 R l m) (h':A2 R' l' m) (k:∀a a' b,R a b->R' a' b->a=a'):l=l':=by
 induction h generalizing l' with
 | nil=>cases h';rfl
 | cons h _ ih=>
  cases h' with
  | cons q r=>rw[k _ _ _ h q,ih r]
theorem Ek.inj {h:Heap}:∀{n:Nat}{d d':D}{v:Value},Ek h n d v->Ek h n d' v->d=d'
 | 0,_,_,_,⟨i,t,e1,e2⟩,⟨j,u,e3,e4⟩=>by subst e1 e2 e3;cases e4;rfl
 | n+1,_,_,_,⟨ds,a,o,items,k,e1,e2,h1,h2,h3,r⟩,⟨ds',a',o',items',k',e1',e2',h1',h2',h3',r'⟩=>by
  subst e1 e2 e1'
  cases e2'
  obtain rfl:o=o':=xP (h1.symm.trans h1')
  rw[h3]at h3'
  injection h3' with q _
  subst q
  rw[r.inj r' fun _ _ _ x y=>Ek.inj x y]
mutual
noncomputable def hD:D->Int
 | .int i=>hashInt i
 | .tup l=>reduceHash (Builtin.Tuple.tupleHashOf (hL l))
 | _=>0
noncomputable def hL:List D->List Int
 | []=>[]
 | d::r=>hD d::hL r
end
theorem zQg:∀(l m:List D),hL (l++m)=hL l++hL m
 | [],_=>rfl
 | d::l,m=>by simp[hL,zQg l m]
section
variable {prog:Program}{w:World}{s:Shared}
theorem Ek.typeIs {n:Nat}{d:D}{a:Addr}(h:Ek s.heap (n+1) d (.ref a)):s.TypeIs (.ref a) "tuple":=by
 obtain⟨ds,a',o,items,k,e1,e2,h1,h2,h3,r⟩:=h
 cases e2
 exact⟨o,h1,h2⟩
theorem zM9:∀(n:Nat) {d:D}{v:Value}{A:Around}{E:Value->Shared->Prop}{s:Shared}{Q:Int->Shared->Prop},Ek s.heap n d v->A.units+n<cLine->(∀tk,s.toks<=tk->Q (hD d) { s with toks:=tk })->wpAny (model prog w) A (pyHash v) Q E s
 | 0,_,_,A,E,s,Q,⟨i,t,e1,e2⟩,_,h=>by subst e1 e2;exact wpAny_pyHash_int (h _ (u0 _ _))
 | n+1,_,_,A,E,s,Q,hk,hu,h=>by
  have hk0:=hk
  obtain⟨ds,a,o,items,k,rfl,rfl,ho,hc,hd,r⟩:=hk
  have hT:=hk0.typeIs
  unfold pyHash
  first|unfold pyHashByItsType|skip
  first|refine xc (wpAny_cRoomFor_or (.inr (by nofun)) ?_)|skip
  refine xc (ub hT u6.lookup ?_)
  show wpAny _ _ (if(some (Value.builtin "tuple.__hash__") == some Value.none)=true then _ else _) Q E s
  rw[xh (by rw[beq_builtin_none];exact xY)]
  refine xc (ub hT u6.lookup ?_)
  show wpAny _ _ (callSpecialIfBoundUnlessNone? (.ref a) "__hash__" _ >>= _) Q E s
  refine xc (wpAny_callSpecialIfBoundUnlessNone?_slot hT u6 (xS u6 hT F.entry_tuple_hash ?_ (F.args_tuple_hash_1 _)))
  show wpAny _ _ (Builtin.Tuple.tupleItemsOf (.ref a) >>= _) _ _ s
  refine xc (u7 ho hd (xc ?_))
  rw[<- uM]
  refine vX _ (fun rest (b:Array Int) s'=>∃fst left tk,ds=fst++left/\s.toks<=tk/\A2 (Ek s.heap n) left rest/\b.toList=hL fst/\s'={ s with toks:=tk }) _ ?_ ?_ _ _ ⟨[],ds,s.toks,rfl,xi _,r,rfl,rfl⟩
  ·rintro x rest b s' ⟨fst,left,tk,rfl,ht,hl,hb,rfl⟩
   cases hl with
   | @cons k' _ ks' _ h1 hl'=>
    refine xc (zM9 n h1 (by show A.units+1+n<cLine;lia) fun tk2 ht2=>?_)
    exact xf ⟨fst++[k'],ks',tk2,by simp,xp ht ht2,hl',by rw[zQg];simp[hb,hL],rfl⟩
  ·rintro b s' ⟨fst,left,tk,rfl,ht,hl,hb,rfl⟩
   cases hl
   rw[v9]at h
   show wpAny _ _ (retInt (Builtin.Tuple.tupleHashOf b.toList)) _ _ _
   rw[hb]
   refine wpAny_ret_mkInt ?_
   show wpAny _ _ (if(decide (-(2:Int) ^ 63<=Builtin.Tuple.tupleHashOf (hL fst)) && decide (Builtin.Tuple.tupleHashOf (hL fst)<2 ^ 63))=true then _ else _) Q E _
   have h':=h (tk+1) (Nat.le_succ_of_le ht)
   unfold hD reduceHash at h'
   by_cases hr:(decide (-(2:Int) ^ 63<=Builtin.Tuple.tupleHashOf (hL fst)) && decide (Builtin.Tuple.tupleHashOf (hL fst)<2 ^ 63))=true
   ·rw[xg hr]
    rw[xg hr]at h'
    exact xf h'
   ·rw[xh hr]
    rw[xh hr]at h'
    exact xc (xX (xf h'))
theorem zFj:∀(n f:Nat) {d:D}{v:Value}{A:Around}{E:Value->Shared->Prop}{s:Shared}{Q:Bool->Shared->Prop},Ek s.heap n d v->n<=f->Q false s->wpAny (model prog w) A (ofAClassStatement f v) Q E s
 | 0,f,_,_,A,E,s,Q,⟨i,t,e1,e2⟩,_,h=>by subst e1 e2;exact wpAny_of_eq (show ofAClassStatement f (.int i t)=pure false by cases f <;> rfl) h
 | n+1,0,_,_,A,E,s,Q,hk,hf,h=>by nofun
 | n+1,f+1,_,_,A,E,s,Q,hk,hf,h=>by
  have hk0:=hk
  obtain⟨ds,a,o,items,k,rfl,rfl,ho,hc,hd,r⟩:=hk
  have hT:=hk0.typeIs
  unfold ofAClassStatement
  refine xc (uk hT ?_)
  dsimp only
  rw[xg (by decide)]
  refine xc (xf ?_)
  rw[xh (by decide)]
  refine xc (vz ho hd (xc ?_))
  show wpAny _ _ (forIn items _ _) _ _ s
  rw[<- uM]
  refine vX _ (fun rest r s'=>r.1=none/\s'=s/\∃l,A2 (Ek s.heap n) l rest) _ ?_ ?_ _ _ ⟨rfl,rfl,_,r⟩
  ·rintro v rest r s' ⟨hr,rfl,l,al⟩
   cases al with
   | cons q al=>
    refine xc (zFj n f q (by nofun) ?_)
    rw[xh (by decide)]
    exact xf ⟨rfl,rfl,_,al⟩
  ·rintro⟨r1,r2⟩ s' ⟨hr,rfl,_⟩
   simp only at hr
   subst hr
   exact xf h
theorem zIi:∀(n f:Nat) {d:D}{v:Value}{A:Around}{E:Value->Shared->Prop}{s:Shared}{Q:Bool->Shared->Prop},Ek s.heap n d v->n<=f->Q true s->wpAny (model prog w) A (hashByValue f v) Q E s
 | 0,f,_,_,A,E,s,Q,⟨i,t,e1,e2⟩,_,h=>by subst e1 e2;exact wpAny_of_eq (show hashByValue f (.int i t)=pure true by cases f <;> rfl) h
 | n+1,0,_,_,A,E,s,Q,hk,hf,h=>by nofun
 | n+1,f+1,_,_,A,E,s,Q,hk,hf,h=>by
  have hk0:=hk
  obtain⟨ds,a,o,items,k,rfl,rfl,ho,hc,hd,r⟩:=hk
  have hT:=hk0.typeIs
  unfold hashByValue
  refine xc (ub hT u6.lookup ?_)
  dsimp only
  refine xc (vz ho hd (xc ?_))
  show wpAny _ _ (forIn items _ _) _ _ s
  rw[<- uM]
  refine vX _ (fun rest r s'=>r.1=none/\s'=s/\∃l,A2 (Ek s.heap n) l rest) _ ?_ ?_ _ _ ⟨rfl,rfl,_,r⟩
  ·rintro v rest r s' ⟨hr,rfl,l,al⟩
   cases al with
   | cons q al=>
    refine xc (zIi n f q (by nofun) ?_)
    rw[xh (by decide)]
    exact xf ⟨rfl,rfl,_,al⟩
  ·rintro⟨r1,r2⟩ s' ⟨hr,rfl,_⟩
   simp only at hr
   subst hr
   exact xf h
theorem zFi:∀(n f:Nat) {d:D}{v:Value}{A:Around}{E:Value->Shared->Prop}{s:Shared}{Q:Bool->Shared->Prop},Ek s.heap n d v->n<=f->Q true s->wpAny (model prog w) A (eqIsQuiet f v) Q E s
 | 0,f,_,_,A,E,s,Q,⟨i,t,e1,e2⟩,_,h=>by subst e1 e2;rw[eqIsQuiet_byValue _ (by rfl)];exact xf h
 | n+1,0,_,_,A,E,s,Q,hk,hf,h=>by nofun
 | n+1,f+1,_,_,A,E,s,Q,hk,hf,h=>by
  have hk0:=hk
  obtain⟨ds,a,o,items,k,rfl,rfl,ho,hc,hd,r⟩:=hk
  have hT:=hk0.typeIs
  unfold eqIsQuiet
  refine xc (ub hT F.slot_tuple_eq.lookup ?_)
  show wpAny _ _ (isInstance (.ref a) (.type "tuple") >>= _) _ _ s
  refine xc (vT hT isSubtype_tuple_tuple ?_)
  simp only[uz,vi,xQ]
  refine xc (vz ho hd (xc ?_))
  show wpAny _ _ (forIn items _ _) _ _ s
  rw[<- uM]
  refine vX _ (fun rest r s'=>r.1=none/\s'=s/\∃l,A2 (Ek s.heap n) l rest) _ ?_ ?_ _ _ ⟨rfl,rfl,_,r⟩
  ·rintro v rest r s' ⟨hr,rfl,l,al⟩
   cases al with
   | cons q al=>
    refine xc (zFi n f q (by nofun) ?_)
    simp only[uz,vi,xQ]
    exact xf ⟨rfl,rfl,_,al⟩
  ·rintro⟨r1,r2⟩ s' ⟨hr,rfl,_⟩
   simp only at hr
   subst hr
   exact xf h
open Classical in
theorem zJg:∀(n:Nat) {d d':D}{v v':Value}{A:Around}{E:Value->Shared->Prop}{s:Shared}{Q:Bool->Shared->Prop},Ek s.heap n d v->Ek s.heap n d' v'->A.units+n<cLine->Q (decide (d=d')) s->wpAny (model prog w) A (eqBool v v') Q E s
 | 0,_,_,_,_,A,E,s,Q,⟨i,t,e1,e2⟩,⟨j,u,e3,e4⟩,_,h=>by
  subst e1 e2 e3 e4
  refine wpAny_eqBool_int ?_
  have:(i == j)=decide (D.int i=D.int j):=by
   by_cases q:i=j
   ·subst q;simp
   ·rw[xy (fun z=>q (by cases z;rfl))];simpa using q
  rw[this];exact h
 | n+1,_,_,_,_,A,E,s,Q,hx,hy,hu,h=>by
  have hx0:=hx
  have hy0:=hy
  obtain⟨ds,a,oa,xs,ka,rfl,rfl,hoa,hca,hda,ra⟩:=hx
  obtain⟨es,b,ob,ys,kb,rfl,rfl,hob,hcb,hdb,rb⟩:=hy
  unfold eqBool
  try with_reducible refine xC ?_
  show wpAny _ _ (if(Value.ref a == Value.ref b)=true then _ else _) Q E s
  by_cases hab:(Value.ref a == Value.ref b)=true
  ·rw[xg hab]
   have e:a=b:=by have:=eq_of_beq hab;injection this
   subst e
   have e2:=hx0.inj hy0
   rw[xB e2]at h
   exact xc (xX (xf h))
  ·rw[xh hab]
   suffices hc:wpAny (model prog w) A (call (.builtin "tuple.__eq__") [.ref a,.ref b]) (fun v s'=>v=.bool (decide (D.tup ds=D.tup es))/\s'=s) E s from
    xc (wpAny_richCompare_same_room hx0.typeIs hy0.typeIs F.slot_tuple_eq (vt hc (fun v s' q=>by
     obtain⟨rfl,rfl⟩:=q
     exact⟨(fun e=>nomatch e),vZ h⟩) fun _ _ x=>x) (by nofun))
   refine xS F.slot_tuple_eq hx0.typeIs F.entry_tuple_eq ?_ (F.args_tuple_eq_2 _ _)
   have fin:∀c:Bool,c=decide (D.tup ds=D.tup es)->∃v,(PySem.Fin.done (.ret (.bool c)):PySem.Fin)=.done (.ret v)/\v=.bool (decide (D.tup ds=D.tup es))/\s=s:=fun c hc=>⟨_,rfl,by rw[hc],rfl⟩
   show wpAny _ _ (isInstance (.ref b) (.type "tuple") >>= _) _ _ s
   refine xc (vT hy0.typeIs isSubtype_tuple_tuple ?_)
   simp only[uz,vi,xQ]
   refine xc (u7 hoa hda (xc (u7 hob hdb (xc ?_))))
   refine vX _ (fun rest r s'=>r.1=none/\s'=s/\∃(x' y':List D) (xs' ys':List Value),rest=List.zip xs' ys'/\A2 (Ek s.heap n) x' xs'/\A2 (Ek s.heap n) y' ys'/\(x'=y' <-> ds=es)/\(xs'.length == ys'.length)=(xs.size == ys.size)) _ ?_ ?_ _ _ ⟨rfl,rfl,ds,es,xs.toList,ys.toList,rfl,ra,rb,Iff.rfl,by simp⟩
   ·rintro⟨u,v⟩ rest r s' ⟨hr,rfl,x',y',xs',ys',hz,hx',hy',hdec,hlen⟩
    cases hx' with
    | nil=>simp at hz
    | @cons k1 u' x'' xs'' h1 hx''=>
     cases hy' with
     | nil=>simp at hz
     | @cons k2 v' y'' ys'' h2 hy''=>
      simp only[vP,List.cons.injEq,Prod.mk.injEq]at hz
      obtain⟨⟨rfl,rfl⟩,rfl⟩:=hz
      refine xc (zJg n h1 h2 (by show A.units+1+n<cLine;lia) ?_)
      by_cases hk:k1=k2
      ·subst hk
       rw[xB rfl]
       simp only[uz,vi,xQ]
       refine xf ⟨rfl,rfl,x'',y'',xs'',ys'',rfl,hx'',hy'',?_,by simpa using hlen⟩
       rw[<- hdec];simp
      ·rw[xy hk]
       simp only[Bool.not_false,xo]
       have hf:¬ ds=es:=fun z=>hk (by have:=hdec.mpr z;cases this;rfl)
       exact xc (xf (xf (xf (fin false (by rw[xy];intro z;cases z;exact hf rfl)))))
   ·rintro⟨r1,r2⟩ s' ⟨hr,rfl,x',y',xs',ys',hz,hx',hy',hdec,hlen⟩
    simp only at hr
    subst hr
    refine xf ?_
    have hfin:(xs.size == ys.size)=decide (D.tup ds=D.tup es):=by
     have e3:decide (D.tup ds=D.tup es)=decide (x'=y'):=uN.mpr (by rw[D.tup.injEq];exact hdec.symm)
     rw[e3,<- hlen]
     cases hx' with
     | nil=>
      cases hy' with
      | nil=>simp
      | cons _ _=>simp
     | cons _ _=>
      cases hy' with
      | nil=>simp
      | cons _ _=>simp at hz
    exact fin _ hfin
end
end EK
namespace DS
open PySem (Str)
noncomputable section
open Classical
mutual
noncomputable def blt:D->D->Bool
 | .int a,.int b=>decide (a<b)
 | .tup l,.tup m=>bltL l m
 | _,_=>false
noncomputable def bltL:List D->List D->Bool
 | [],[]=>false
 | [],_::_=>true
 | _::_,[]=>false
 | a::r,b::t=>if a=b then bltL r t else blt a b
end
noncomputable def lv:Nat->D->Prop
 | 0,d=>∃i,d=.int i
 | n+1,d=>∃l,d=.tup l/\∀x∈l,lv n x
theorem zB7 (a b:D) (r t:List D):bltL (a::r) (b::t)=if a=b then bltL r t else blt a b:=by rw[bltL]
theorem zIs:∀(l:List D),bltL l l=false
 | []=>by rw[bltL]
 | a::r=>by rw[zB7,xg rfl];exact zIs r
theorem zHl {n:Nat}{d:D}(h:lv n d):blt d d=false:=by
 cases n with
 | zero=>obtain⟨i,rfl⟩:=h;rw[blt];simp
 | succ n=>obtain⟨l,rfl,_⟩:=h;rw[blt];exact zIs l
theorem zFm:∀(n:Nat) {a b:D},lv n a->lv n b->a≠b->blt a b=true\/blt b a=true
 | 0,_,_,⟨i,e⟩,⟨j,e'⟩,h=>by
  subst e e'
  rw[blt,blt]
  have:i≠j:=fun z=>h (by rw[z])
  simp only[decide_eq_true_eq]
  lia
 | n+1,_,_,⟨l,e,hl⟩,⟨m,e',hm⟩,h=>by
  subst e e'
  rw[blt,blt]
  have hlm:l≠m:=fun z=>h (by rw[z])
  clear h
  induction l generalizing m with
  | nil=>
   cases m with
   | nil=>exact absurd rfl hlm
   | cons b t=>left;rw[bltL]
  | cons a r ih=>
   cases m with
   | nil=>right;rw[bltL]
   | cons b t=>
    rw[zB7,zB7]
    by_cases q:a=b
    ·subst q
     rw[xg rfl,xg rfl]
     exact ih (fun x hx=>hl x (.tail _ hx)) t (fun x hx=>hm x (.tail _ hx)) fun z=>hlm (by rw[z])
    ·rw[xh q,xh (xw q)]
     exact zFm n (hl a (.head _)) (hm b (.head _)) q
theorem zIr:∀(n:Nat) {a b c:D},lv n a->lv n b->lv n c->blt a b=true->blt b c=true->blt a c=true
 | 0,_,_,_,⟨i,e⟩,⟨j,e'⟩,⟨k,e''⟩,h,h'=>by
  subst e e' e''
  rw[blt]at h h' ⊢
  simp only[decide_eq_true_eq]at *
  lia
 | n+1,_,_,_,⟨l,e,hl⟩,⟨m,e',hm⟩,⟨k,e'',hk⟩,h,h'=>by
  subst e e' e''
  rw[blt]at h h' ⊢
  induction l generalizing m k with
  | nil=>
   cases k with
   | nil=>cases m with
    | nil=>exact h
    | cons b t=>rw[bltL]at h';cases h'
   | cons c u=>rw[bltL]
  | cons a r ih=>
   cases m with
   | nil=>rw[bltL]at h;cases h
   | cons b t=>
    cases k with
    | nil=>rw[bltL]at h';cases h'
    | cons c u=>
     rw[zB7]at h h' ⊢
     by_cases q:a=b
     ·subst q
      rw[xg rfl]at h
      by_cases q2:a=c
      ·subst q2
       rw[xg rfl]at h' ⊢
       exact ih (fun x hx=>hl x (.tail _ hx)) t (fun x hx=>hm x (.tail _ hx)) u (fun x hx=>hk x (.tail _ hx)) h h'
      ·rw[xh q2]at h' ⊢;exact h'
     ·rw[xh q]at h
      by_cases q2:b=c
      ·subst q2;rw[xh q];exact h
      ·rw[xh q2]at h'
       have t1:=zIr n (hl a (.head _)) (hm b (.head _)) (hk c (.head _)) h h'
       rw[xh (fun z=>by subst z;rw[zHl (hl _ (.head _))]at t1;cases t1)]
       exact t1
theorem zU2 {n:Nat}{a b:D}(ha:lv n a) (hb:lv n b) (h:blt a b=true):blt b a=false:=by
 cases e:blt b a with
 | false=>rfl
 | true=>have:=zIr n ha hb ha h e;rw[zHl ha]at this;cases this
noncomputable def dle (a b:D):Prop:=blt b a=false
theorem zQl {n:Nat}{a b c:D}(ha:lv n a) (hb:lv n b) (hc:lv n c) (h:dle a b) (h':dle b c):dle a c:=by
 unfold dle at *
 cases e:blt c a with
 | false=>rfl
 | true=>
  by_cases q:a=b
  ·subst q;rw[h']at e;cases e
  ·rcases zFm n ha hb q with z|z
   ·have:=zIr n hc ha hb e z;rw[h']at this;cases this
   ·rw[h]at z;cases z
theorem zPh {n:Nat}{a b:D}(ha:lv n a) (hb:lv n b) (h:dle a b) (h':dle b a):a=b:=by
 apply Classical.byContradiction
 intro q
 rcases zFm n ha hb q with z|z
 ·rw[show blt a b=false from h']at z;cases z
 ·rw[show blt b a=false from h]at z;cases z
noncomputable def ins (x:D):List D->List D
 | []=>[x]
 | y::l=>if blt y x=true then y::ins x l else x::y::l
noncomputable def srt:List D->List D
 | []=>[]
 | x::l=>ins x (srt l)
theorem ins_perm (x:D):∀l,(ins x l).Perm (x::l)
 | []=>.refl _
 | y::l=>by
  unfold ins
  split
  ·exact((ins_perm x l).cons y).trans (List.Perm.swap ..)
  ·exact .refl _
theorem zBv:∀l,(srt l).Perm l
 | []=>.refl _
 | x::l=>(ins_perm x _).trans ((zBv l).cons x)
noncomputable abbrev Up (l:List D):Prop:=l.Pairwise dle
theorem ins_up {n:Nat}{x:D}:∀{l:List D},lv n x->(∀y∈l,lv n y)->Up l->Up (ins x l)
 | [],_,_,_=>List.pairwise_singleton _ _
 | y::l,hx,hl,h=>by
  have h':=vD.mp h
  unfold ins
  split
  ·rename_i q
   refine vD.mpr ⟨fun z hz=>?_,ins_up hx (fun z hz=>hl z (.tail _ hz)) h'.2⟩
   rcases xn.mp ((ins_perm x l).mem_iff.mp hz)with rfl|hz
   ·exact zU2 (hl y (.head _)) hx q
   ·exact h'.1 z hz
  ·rename_i q
   refine vD.mpr ⟨fun z hz=>?_,h⟩
   rcases xn.mp hz with rfl|hz
   ·exact uF.mpr q
   ·exact zQl hx (hl y (.head _)) (hl z (.tail _ hz)) (uF.mpr q) (h'.1 z hz)
theorem zHx {n:Nat}:∀{l:List D},(∀y∈l,lv n y)->Up (srt l)
 | [],_=>.nil
 | x::l,h=>ins_up (h x (.head _)) (fun y hy=>h y (.tail _ ((zBv l).mem_iff.mp hy))) (zHx fun y hy=>h y (.tail _ hy))
theorem up_eq {n:Nat}:∀{l m:List D},(∀y∈l,lv n y)->l.Perm m->Up l->Up m->l=m
 | [],m,_,p,_,_=>by rw[List.nil_perm.mp p]
 | a::l,[],_,p,_,_=>by have:=p.length_eq;simp at this
 | a::l,b::m,hv,p,h,h'=>by
  have ha:=vD.mp h
  have hb:=vD.mp h'
  have e:a=b:=by
   by_cases z:a=b
   ·exact z
   ·have m1:b∈l:=by
     rcases xn.mp (p.mem_iff.mpr (xO))with q|q
     ·exact absurd q.symm z
     ·exact q
    have m2:a∈m:=by
     rcases xn.mp (p.mem_iff.mp (xO))with q|q
     ·exact absurd q z
     ·exact q
    exact zPh (hv a (.head _)) (hv b (.tail _ m1)) (ha.1 b m1) (hb.1 a m2)
  subst e
  rw[up_eq (fun y hy=>hv y (.tail _ hy)) (List.Perm.cons_inv p) ha.2 hb.2]
theorem zK0 {n:Nat}{l m:List D}(hv:∀y∈l,lv n y) (p:l.Perm m) (h:Up l):l=srt m:=up_eq hv (p.trans (zBv m).symm) h (zHx fun y hy=>hv y (p.mem_iff.mpr hy))
noncomputable def rkD (l:List D) (d:D):Nat:=(l.filter fun e=>blt e d).length
theorem zT5 {p q:D->Bool}:∀(l:List D),(∀x∈l,p x=true->q x=true)->(l.filter p).length<=(l.filter q).length
 | [],_=>xi _
 | x::l,h=>by
  have ih:=zT5 l fun y hy=>h y (.tail _ hy)
  by_cases c:p x=true
  ·rw[uf c,uf (h x (.head _) c)];simpa using ih
  ·rw[uO c]
   by_cases c2:q x=true
   ·rw[uf c2,xH];lia
   ·rw[uO c2];exact ih
theorem zWo {p q:D->Bool}{y:D}(hy:p y=false) (hy':q y=true):∀(l:List D),y∈l->(∀x∈l,p x=true->q x=true)->(l.filter p).length<(l.filter q).length
 | x::l,hm,h=>by
  rcases xn.mp hm with e|hm
  ·subst e
   rw[uO (by rw[hy];decide),uf hy',xH]
   have:=zT5 l fun z hz=>h z (.tail _ hz)
   lia
  ·have ih:=zWo hy hy' l hm fun z hz=>h z (.tail _ hz)
   by_cases c:p x=true
   ·rw[uf c,uf (h x (.head _) c)];simpa using ih
   ·rw[uO c]
    by_cases c2:q x=true
    ·rw[uf c2,xH];lia
    ·rw[uO c2];exact ih
theorem zRa {n:Nat}{l:List D}{a b:D}(hl:∀x∈l,lv n x) (ha:a∈l) (hb:b∈l):decide (rkD l a<rkD l b)=blt a b:=by
 cases e:blt a b with
 | true=>exact xB (zWo (p:=fun e=>blt e a) (zHl (hl a ha)) e l ha fun x hx q=>zIr n (hl x hx) (hl a ha) (hl b hb) q e)
 | false=>
  refine xy (Nat.not_lt.mpr (zT5 l fun x hx q=>?_))
  cases e2:blt x a with
  | true=>rfl
  | false=>exact absurd q (by rw[show blt x b=false from zQl (hl b hb) (hl a ha) (hl x hx) e e2];decide)
noncomputable def dedup:List D->List D
 | []=>[]
 | x::l=>if x∈l then dedup l else x::dedup l
theorem mem_dedup {x:D}:∀{l:List D},x∈dedup l <-> x∈l
 | []=>Iff.rfl
 | y::l=>by
  unfold dedup
  split
  ·rename_i h
   rw[mem_dedup]
   constructor
   ·exact fun q=>.tail _ q
   ·intro q
    rcases xn.mp q with rfl|q
    ·exact h
    ·exact q
  ·rw[xn,xn,mem_dedup]
theorem zDb:∀{l:List D},(dedup l).Nodup
 | []=>.nil
 | y::l=>by
  unfold dedup
  split
  ·exact zDb
  ·rename_i h
   exact x4.mpr ⟨fun q=>h (mem_dedup.mp q),zDb⟩
theorem zSj {l m:List D}(h:l.Nodup) (h':m.Nodup) (e:∀x,x∈l <-> x∈m):l.Perm m:=by
 induction l generalizing m with
 | nil=>
  cases m with
  | nil=>exact .refl _
  | cons b t=>exact absurd ((e b).mpr (.head _)) (by simp)
 | cons a l ih=>
  have ha:=(e a).mp (.head _)
  obtain⟨u,v,rfl⟩:=List.append_of_mem ha
  have hn:=x4.mp h
  have h2:=(uY.nodup_iff).mp h'
  have hm:=x4.mp h2
  refine(List.Perm.cons a (ih hn.2 hm.2 fun x=>?_)).trans uY.symm
  constructor
  ·intro hx
   have:=(e x).mp (.tail _ hx)
   rcases xn.mp ((uY).mem_iff.mp this)with rfl|q
   ·exact absurd hx hn.1
   ·exact q
  ·intro hx
   have:=(e x).mpr ((uY).mem_iff.mpr (.tail _ hx))
   rcases xn.mp this with rfl|q
   ·exact absurd hx hm.1
   ·exact q
end
end DS
namespace EK
open PySem PyProof.Rows PySem.W
open DS (D blt bltL zB7)
open Classical
section
variable {prog:Program}{w:World}
theorem zEh {n:Nat}(ih:∀{d d':D}{v v':Value}{A:Around}{E:Value->Shared->Prop}{s:Shared}{Q:Value->Shared->Prop},Ek s.heap n d v->Ek s.heap n d' v'->A.units+n<cLine->Q (.bool (blt d d')) s->wpAny (model prog w) A (richCompare .Lt v v') Q E s)
  {d d':D}{a b:Addr}{A:Around}{E:Value->Shared->Prop}{s:Shared}{Q:Value->Shared->Prop}(hx:Ek s.heap (n+1) d (.ref a)) (hy:Ek s.heap (n+1) d' (.ref b)) (hu:A.units+(n+1)<cLine) (h:Q (.bool (blt d d')) s):wpAny (model prog w) A (call (.builtin "tuple.__lt__") [.ref a,.ref b]) Q E s:=by
 have hx0:=hx
 have hy0:=hy
 obtain⟨ds,a',oa,xs,ka,rfl,ea,hoa,hca,hda,ra⟩:=hx
 cases ea
 obtain⟨es,b',ob,ys,kb,rfl,eb,hob,hcb,hdb,rb⟩:=hy
 cases eb
 refine xS PySem.F.slot_tuple_lt hx0.typeIs PySem.F.entry_tuple_lt ?_ (PySem.F.args_tuple_lt_2 _ _)
 rw[blt]at h
 show wpAny _ _ (isInstance (.ref b) (.type "tuple") >>= _) _ _ s
 refine xc (vT hy0.typeIs isSubtype_tuple_tuple ?_)
 simp only[uz,vi,xQ]
 refine xc (u7 hoa hda (xc (u7 hob hdb (xc ?_))))
 refine vX _ (fun rest r s'=>r.1=none/\s'=s/\∃(x' y':List D) (xs' ys':List Value),rest=List.zip xs' ys'/\A2 (Ek s.heap n) x' xs'/\A2 (Ek s.heap n) y' ys'/\bltL x' y'=bltL ds es/\decide (xs'.length<ys'.length)=decide (xs.size<ys.size)) _ ?_ ?_ _ _ ⟨rfl,rfl,ds,es,xs.toList,ys.toList,rfl,ra,rb,rfl,by simp⟩
 ·rintro⟨u,v⟩ rest r s' ⟨hr,rfl,x',y',xs',ys',hz,hx',hy',hdec,hlen⟩
  cases hx' with
  | nil=>simp at hz
  | @cons k1 u' x'' xs'' h1 hx''=>
   cases hy' with
   | nil=>simp at hz
   | @cons k2 v' y'' ys'' h2 hy''=>
    simp only[vP,List.cons.injEq,Prod.mk.injEq]at hz
    obtain⟨⟨rfl,rfl⟩,rfl⟩:=hz
    refine xc (zJg n h1 h2 (by show A.units+1+n<cLine;lia) ?_)
    rw[zB7]at hdec
    by_cases hk:k1=k2
    ·subst hk
     rw[xg rfl]at hdec
     rw[xB rfl]
     simp only[uz,vi,xQ]
     exact xf ⟨rfl,rfl,x'',y'',xs'',ys'',rfl,hx'',hy'',hdec,by simpa using hlen⟩
    ·rw[xh hk]at hdec
     rw[xy hk]
     simp only[Bool.not_false,xo]
     refine xc (xX (xc (ih h1 h2 (by show A.units+1+n<cLine;lia) ?_)))
     refine xc (xf (xf (xf ⟨_,rfl,?_⟩)))
     rw[hdec];exact h
 ·rintro⟨r1,r2⟩ s' ⟨hr,rfl,x',y',xs',ys',hz,hx',hy',hdec,hlen⟩
  simp only at hr
  subst hr
  have hfin:bltL ds es=decide (xs.size<ys.size):=by
   rw[<- hdec,<- hlen]
   cases hx' with
   | nil=>
    cases hy' with
    | nil=>rw[bltL];rfl
    | cons _ _=>rw[bltL];simp
   | cons _ _=>
    cases hy' with
    | nil=>rw[bltL];simp
    | cons _ _=>simp at hz
  rw[hfin]at h
  exact xf ⟨_,rfl,h⟩
theorem zPb:∀(n:Nat) {d d':D}{v v':Value}{A:Around}{E:Value->Shared->Prop}{s:Shared}{Q:Value->Shared->Prop},Ek s.heap n d v->Ek s.heap n d' v'->A.units+n<cLine->Q (.bool (blt d d')) s->wpAny (model prog w) A (richCompare .Lt v v') Q E s
 | 0,_,_,_,_,A,E,s,Q,⟨i,t,e1,e2⟩,⟨j,u,e3,e4⟩,_,h=>by
  subst e1 e2 e3 e4
  rw[blt]at h
  exact(lt_int h:wpAny (model prog w) A (compareOp .Lt (.int i t) (.int j u)) Q E s)
 | n+1,_,_,_,_,A,E,s,Q,hx,hy,hu,h=>by
  have hx0:=hx
  have hy0:=hy
  obtain⟨ds,a,oa,xs,ka,rfl,rfl,hoa,hca,hda,ra⟩:=hx
  obtain⟨es,b,ob,ys,kb,rfl,rfl,hob,hcb,hdb,rb⟩:=hy
  exact wpAny_richCompare_same_room hx0.typeIs hy0.typeIs PySem.F.slot_tuple_lt (zEh (fun {d d' v v' A E s Q}=>zPb n) hx0 hy0 hu ⟨(fun e=>nomatch e),h⟩) (by nofun)
theorem zLb (n:Nat) {d d':D}{v v':Value}{A:Around}{E:Value->Shared->Prop}{s:Shared}{Q:Bool->Shared->Prop}(hx:Ek s.heap n d v) (hy:Ek s.heap n d' v') (hu:A.units+n<cLine) (h:Q (blt d d') s) (b:Bool):wpAny (model prog w) A (oneLt' b v v') Q E s:=by
 rw[oneLt'_eq]
 cases b with
 | false=>
  simp only[vi,xQ]
  exact xc (zPb n hx hy hu (vZ h))
 | true=>
  simp only[xo]
  refine xc (wpAny_cRoomFor_or (.inr (by nofun)) ?_)
  cases n with
  | zero=>
   obtain⟨i,t,rfl,rfl⟩:=hx
   obtain⟨j,u,rfl,rfl⟩:=hy
   rw[blt]at h
   exact xc (wpAny_callSpecialIfBound?_slot (typeIs_int s i t) slot_int_lt (call_int_lt (vZ h)))
  | succ n=>
   have hx0:=hx
   have hy0:=hy
   obtain⟨ds,a,oa,xs,ka,rfl,rfl,hoa,hca,hda,ra⟩:=hx
   obtain⟨es,b,ob,ys,kb,rfl,rfl,hob,hcb,hdb,rb⟩:=hy
   exact xc (wpAny_callSpecialIfBound?_slot hx0.typeIs PySem.F.slot_tuple_lt (zEh (fun {d d' v v' A E s Q}=>zPb n) hx0 hy0 hu (vZ h)))
theorem zQa {n:Nat}{A:Around}{b:Bool}{s:Shared}{Q:Bool->Shared->Prop}(hu:A.units+n<cLine) {fin:Bool}:∀{ds es:List D}{xs ys:List Value}(i:Nat),A2 (Ek s.heap n) ds xs->A2 (Ek s.heap n) es ys->fin=decide (ds.length<es.length)->Q (bltL ds es) s->KatLex prog w A b fin Q (xs.zip ys) i s
 | _,_,_,_,i,.nil,.nil,hf,h=>by rw[bltL]at h;rw[hf];exact h
 | _,_,_,_,i,.nil,.cons _ _,hf,h=>by rw[bltL]at h;rw[List.zip_nil_left,hf];exact kat_nil (by simpa using h)
 | _,_,_,_,i,.cons _ _,.nil,hf,h=>by rw[bltL]at h;rw[List.zip_nil_right,hf];exact kat_nil (by simpa using h)
 | _,_,_,_,i,.cons (a:=d) h1 r1,.cons (a:=e) h2 r2,hf,h=>by
  rw[zB7]at h
  rw[vP]
  refine kat_cons (zJg n h1 h2 hu ?_)
  by_cases q:d=e
  ·rw[xg q]at h
   rw[xB q]
   exact kat_yes (zQa hu (i+1) r1 r2 (by rw[hf];simp) h)
  ·rw[xh q]at h
   rw[xy q]
   exact kat_no (zLb n h1 h2 hu h _)
inductive Kd:SortKind->Nat->Prop where
 | gen {n:Nat}:Kd general' n
 | one {n:Nat}:Kd oneType' n
 | tup {n:Nat}{b:Bool}:Kd (tuples' b) (n+1)
theorem zWb {κ:SortKind}{n:Nat}(hκ:Kd κ n) {d d':D}{v v':Value}{A:Around}{E:Value->Shared->Prop}{s:Shared}{Q:Bool->Shared->Prop}(hx:Ek s.heap n d v) (hy:Ek s.heap n d' v') (hu:A.units+n<cLine) (h:Q (blt d d') s):wpAny (model prog w) A (keyLt' κ v v') Q E s:=by
 cases hκ with
 | gen=>exact(zLb n hx hy hu h false:wpAny (model prog w) A (oneLt' false v v') Q E s)
 | one=>rw[keyLt'_oneType];exact zLb n hx hy hu h true
 | @tup n b=>
  obtain⟨ds,a,oa,xs,ka,rfl,rfl,hoa,hca,hda,ra⟩:=hx
  obtain⟨es,c,ob,ys,kb,rfl,rfl,hob,hcb,hdb,rb⟩:=hy
  rw[blt]at h
  exact kat_lt hoa hda hob hdb (zQa (by nofun) 0 ra rb (by rw[ra.length,rb.length];simp) h)
end
end EK
namespace EK
open PySem PyProof.Rows PySem.W TM
open DS (D blt bltL lv srt rkD zRa zK0 Up dle)
open Classical
theorem Ek.lv {h:Heap}:∀{n:Nat}{d:D}{v:Value},Ek h n d v->lv n d
 | 0,_,_,⟨i,t,e1,e2⟩=>⟨i,e1⟩
 | n+1,_,_,⟨ds,a,o,items,k,e1,e2,h1,h2,h3,r⟩=>⟨ds,e1,by
  clear e1 h3
  generalize items.toList=vs at r
  induction r with
  | nil=>intro x hx;cases hx
  | cons q _ ih=>
   intro x hx
   rcases xn.mp hx with rfl|hx
   ·exact Ek.lv q
   ·exact ih x hx⟩
section
variable {prog:Program}{w:World}{A:Around}{E:Value->Shared->Prop}{s:Shared}{n:Nat}{ds:List D}{vs:List Value}
noncomputable def ekTy:Nat->Value
 | 0=>.type "int"
 | _+1=>.type "tuple"
theorem zF8 {M:Model}{d:D}{v:Value}(h:Ek s.heap n d v):Looks M s.heap (typeOf v) (ekTy n):=by
 cases n with
 | zero=>obtain⟨i,t,rfl,rfl⟩:=h;exact .now
 | succ n=>
  obtain⟨ds,a,o,items,k,rfl,rfl,ho,hc,hd,r⟩:=h
  have:Looks M s.heap (typeOf (.ref a)) o.cls:=(Looks.ld ho).andThen .now
  rw[hc]at this;exact this
theorem A2.mem_r {α β:Type}{R:α->β->Prop}{l:List α}{m:List β}(h:A2 R l m):∀b∈m,∃a∈l,R a b:=by
 induction h with
 | nil=>intro b hb;cases hb
 | cons q _ ih=>
  intro b hb
  rcases xn.mp hb with rfl|hb
  ·exact⟨_,.head _,q⟩
  ·obtain⟨a,ha,r⟩:=ih b hb;exact⟨a,.tail _ ha,r⟩
theorem A2.mem_l {α β:Type}{R:α->β->Prop}{l:List α}{m:List β}(h:A2 R l m):∀a∈l,∃b∈m,R a b:=by
 induction h with
 | nil=>intro b hb;cases hb
 | cons q _ ih=>
  intro b hb
  rcases xn.mp hb with rfl|hb
  ·exact⟨_,.head _,q⟩
  ·obtain⟨a,ha,r⟩:=ih b hb;exact⟨a,.tail _ ha,r⟩
theorem zQ8 {M:Model}{vs:List Value}{T:Value}{Q:Option Value->Shared->Prop}(hT:∀v∈vs,Looks M s.heap (typeOf v) T) (h:∀r,Q r s):wpAny M A (oneTypeOnly' vs.toArray) Q E s:=by
 rw[oneTypeOnly'_eq,List.mapM_toArray,map_eq_pure_bind]
 refine xc (xc (kas_mapM _ (fun v hv Q' hq=>(hT v hv).here hq) (xf ?_)))
 split
 ·exact xf (h _)
 ·exact xf (h _)
theorem firsts {M:Model}:∀{ds:List D}{vs:List Value}{Q:List (Option Value)->Shared->Prop},A2 (Ek s.heap n) ds vs->(∀fs:List (Option Value),fs.length=vs.length->(n=0->∀f∈fs,f=none)->(∀f∈fs,∀v,f=some v->∃m d,n=m+1/\Ek s.heap m d v)->Q fs s)->wpAny M A (vs.mapM firstOfTuple') Q E s
 | _,_,Q,.nil,h=>by rw[List.mapM_nil];exact xf (h [] rfl (fun _ f hf=>nomatch hf) fun f hf=>nomatch hf)
 | _,_,Q,.cons (b:=v) (m:=vs) q r,h=>by
  rw[List.mapM_cons]
  refine xc ?_
  have go:∀f:Option Value,(n=0->f=none)->(∀v,f=some v->∃m d,n=m+1/\Ek s.heap m d v)->wpAny M A (vs.mapM firstOfTuple' >>= fun bs=>pure (f::bs)) Q E s:=fun f h0 h1=>
   xc (firsts r fun fs hl hz hs=>xf (h (f::fs) (by simp[hl]) (fun z g hg=>by
    rcases xn.mp hg with rfl|hg
    ·exact h0 z
    ·exact hz z g hg) fun g hg=>by
    rcases xn.mp hg with rfl|hg
    ·exact h1
    ·exact hs g hg))
  have lk:=zF8 (M:=M) q
  rw[kas_first_eq]
  cases n with
  | zero=>
   obtain⟨i,t,rfl,rfl⟩:=q
   refine xc (Looks.here (show Looks M s.heap (typeOf (.int i t)) (.type "int")from .now) ?_)
   rw[xg (by decide)]
   exact xf (go none (fun _=>rfl) fun v e=>nomatch e)
  | succ n=>
   obtain⟨ds,a,o,items,k,rfl,rfl,ho,hc,hd,r'⟩:=q
   refine xc (lk.here ?_)
   rw[show ekTy (n+1)=.type "tuple" from rfl,xh (by decide)]
   refine xc (listItems_at ho hd (xf (go _ (fun z=>nomatch z) fun v e=>?_)))
   obtain⟨d,hd',rr⟩:=r'.mem_r v (by obtain⟨z,e⟩:=x8.mp e;rw[<- e];simp)
   exact⟨n,d,rfl,rr⟩
theorem zSs {Q:SortKind->Shared->Prop}(h:A2 (Ek s.heap n) ds vs) (hne:vs≠[]) (hQ:∀κ,Kd κ n->Q κ s):wpAny (model prog w) A (keyKind' vs.toArray) Q E s:=by
 rw[kat_kind_eq,List.mapM_toArray,map_eq_pure_bind]
 refine xc (xc (firsts h fun fs hl hz hs=>xf ?_))
 by_cases q:(fs.toArray.all fun x=>x.isSome)=true
 ·rw[xg q]
  have hn:∃m,n=m+1:=by
   cases n with
   | succ m=>exact⟨m,rfl⟩
   | zero=>
    exfalso
    match fs,hl with
    | [],hl=>exact hne (List.length_eq_zero_iff.mp hl.symm)
    | f::fs,hl=>
     have:=hz rfl f (.head _)
     subst this
     simp at q
  obtain⟨m,rfl⟩:=hn
  refine xc (xX ?_)
  have e:fs.toArray.filterMap id=(fs.filterMap id).toArray:=by simp
  rw[e]
  refine xc (zQ8 (T:=ekTy m) (fun v hv=>?_) fun r=>xf (hQ _ .tup))
  obtain⟨f,hf,e2⟩:=uB.mp hv
  obtain⟨m',d,e3,hk⟩:=hs f hf v e2
  cases e3
  exact zF8 hk
 ·rw[xh q]
  split
  ·exact xf (hQ _ .gen)
  ·refine xc (zQ8 (T:=ekTy n) (fun v hv=>?_) fun r=>?_)
   ·obtain⟨d,_,hk⟩:=h.mem_r v hv
    exact zF8 hk
   ·split
    ·exact xf (hQ _ .one)
    ·exact xf (hQ _ .gen)
noncomputable def kd (h:Heap) (n:Nat) (v:Value):D:=if z:∃d,Ek h n d v then choose z else .non
theorem zG6 {h:Heap}{d:D}{v:Value}(q:Ek h n d v):kd h n v=d:=by
 have z:∃d,Ek h n d v:=⟨d,q⟩
 unfold kd
 rw[dif_pos z]
 exact(choose_spec z).inj q
theorem zWc {h:Heap}(r:A2 (Ek h n) ds vs):vs.map (kd h n)=ds:=by
 induction r with
 | nil=>rfl
 | cons q _ ih=>rw[xx,zG6 q,ih]
theorem zZa {h:Heap}{vs:List Value}(al:∀v∈vs,∃d,Ek h n d v):A2 (Ek h n) (vs.map (kd h n)) vs:=by
 induction vs with
 | nil=>exact .nil
 | cons v vs ih=>
  obtain⟨d,q⟩:=al v (.head _)
  exact .cons (by rw[zG6 q];exact q) (ih fun u hu=>al u (.tail _ hu))
theorem zHr:∀(l:List Value),l.zip l=l.map fun v=>(v,v)
 | []=>rfl
 | x::l=>by rw[vP,zHr l];rfl
theorem zNp {κ:SortKind}(hκ:Kd κ n) (hz:vs.length<=2 ^ 21) (h:A2 (Ek s.heap n) ds vs) (hu:A.units+n<cLine) {Q:SortSt->Shared->Prop}
  (hQ:∀(st:SortSt) (vs':List Value),vs'.Perm vs->A2 (Ek s.heap n) (srt ds) vs'->failedOf st=none->(arrOf st).map (·.2)=vs'.toArray->Q st s):
  wpAny (model prog w) A ((sortRuns').run (SortSt.mk' κ (vs.toArray.zip vs.toArray) #[] 7 none)) (fun r s'=>Q r.2 s') E s:=by
 have za:(vs.toArray.zip vs.toArray).toList=vs.map fun v=>(v,v):=by
  rw[Array.toList_zip]
  exact zHr vs
 have mem:∀x∈vs.toArray.zip vs.toArray,∃v∈vs,x=(v,v):=fun x hx=>by
  have:x∈vs.map fun v=>(v,v):=by rw[<- za];exact u9.mpr hx
  obtain⟨v,hv,e⟩:=xA.mp this
  exact⟨v,hv,e.symm⟩
 have C:Cm prog w A s κ (fun x=>rkD ds (kd s.heap n x.1)) (fun x=>x∈vs.toArray.zip vs.toArray):=fun x y hx hy Q E' q=>by
  obtain⟨v,hv,rfl⟩:=mem x hx
  obtain⟨u,hu',rfl⟩:=mem y hy
  obtain⟨d,hd,k1⟩:=h.mem_r v hv
  obtain⟨e,he,k2⟩:=h.mem_r u hu'
  refine zWb hκ k1 k2 hu ?_
  have hl:∀x∈ds,lv n x:=fun x hx=>by obtain⟨b,_,r⟩:=h.mem_l x hx;exact r.lv
  have q2:Q (decide (rkD ds (kd s.heap n v)<rkD ds (kd s.heap n u))) s:=q
  rw[zG6 k1,zG6 k2,zRa hl hd he]at q2
  exact q2
 refine vt (w_sr (Q:=fun _ st=>∃vs':List Value,vs'.Perm vs/\A2 (Ek s.heap n) (srt ds) vs'/\failedOf st=none/\(arrOf st).map (·.2)=vs'.toArray) C (by simpa using hz) (fun x hx=>hx) ⟨.refl _,rfl,rfl⟩ rfl fun st' B so=>?_) (fun r s' q=>?_) fun _ _ e=>e
 ·have pm:(arrOf st').toList.Perm (vs.map fun v=>(v,v)):=by rw[<- za];exact Array.perm_iff_toList_perm.mp B.perm
  have p2:((arrOf st').toList.map (·.2)).Perm vs:=by
   have:=pm.map (·.2)
   rw[ue]at this
   rwa[show vs.map ((fun x:Value × Value=>x.2) ∘ fun v=>(v,v))=vs from List.map_id' vs]at this
  have al:∀v∈(arrOf st').toList.map (·.2),∃d,Ek s.heap n d v:=fun v hv=>by
   obtain⟨d,_,q⟩:=h.mem_r v (p2.mem_iff.mp hv)
   exact⟨d,q⟩
  have a2:=zZa al
  refine⟨_,p2,?_,B.failed,by apply u4.mp;rw[Array.toList_map]⟩
  have pd:(((arrOf st').toList.map (·.2)).map (kd s.heap n)).Perm ds:=by
   have:=p2.map (kd s.heap n)
   rwa[zWc h]at this
  have up:Up (((arrOf st').toList.map (·.2)).map (kd s.heap n)):=by
   have hl:∀x∈ds,lv n x:=fun x hx=>by obtain⟨b,_,r⟩:=h.mem_l x hx;exact r.lv
   have sz:=B.size
   rw[<- sz]at so
   have pw:=so.pw
   rw[ue]
   refine List.pairwise_map.mpr (pw.imp_of_mem fun {x y} hx hy q=>?_)
   have ex:∀x∈(arrOf st').toList,x.1=x.2/\kd s.heap n x.2∈ds:=fun x hx=>by
    obtain⟨v,hv,rfl⟩:=xA.mp (pm.mem_iff.mp hx)
    obtain⟨d,hd,k⟩:=h.mem_r v hv
    exact⟨rfl,by show kd s.heap n v∈ds;rw[zG6 k];exact hd⟩
   obtain⟨e1,m1⟩:=ex x hx
   obtain⟨e2,m2⟩:=ex y hy
   dsimp only at q
   rw[e1,e2]at q
   show blt (kd s.heap n y.2) (kd s.heap n x.2)=false
   rw[<- zRa hl m2 m1]
   exact xy (by nofun)
  rw[<- zK0 (fun y hy=>by obtain⟨b,_,r⟩:=a2.mem_l y hy;exact r.lv) pd up]
  exact a2
 ·obtain⟨rfl,vs',a,b,c,d⟩:=q
  exact hQ _ vs' a b c d
theorem Ek.kept' {h h':Heap}{a:Addr}{o₀:Obj}(ho:h.get? a=some o₀) (hc:o₀.cls≠.type "tuple") (k:∀b o,b≠a->h.get? b=some o->h'.get? b=some o) {d:D}{v:Value}(x:Ek h n d v):Ek h' n d v:=
 x.kept fun b o e ec=>k b o (fun z=>by subst z;rw[ho]at e;cases e;exact hc ec) e
theorem zK9 {a:Addr}{c₀:Nat}{P:PySem.Fin->Shared->Prop}(ho:s.heap.get? a=some (seqObj "list" vs.toArray c₀)) (hk:A2 (Ek s.heap n) ds vs) (hz:vs.length<=2 ^ 21) (hu:A.units+n<cLine)
  (h:∀(vs':List Value) (c:Nat) (h':Heap),vs'.Perm vs->A2 (Ek h' n) (srt ds) vs'->(∀b o,b≠a->s.heap.get? b=some o->h'.get? b=some o)->h'.get? a=some (seqObj "list" vs'.toArray c)->P (.done (.ret .none)) { s with heap:=h' }):
  wpAny (model prog w) A (Builtin.«list.sort» ⟨[.ref a],[]⟩) P E s:=by
 have lz:vs.length<=sizeLine:=by rw[xZ];lia
 rw[list_sort_plain]
 refine xc (listItems_at ho rfl (xc (listUpdate_at ho rfl ?_ (by simpa using lz) (vg _))))
 obtain⟨e1,ho1⟩:∃e1,(s.heap.update a (Obj.mapSeq fun _=>(#[]:Array Value))).get? a=some (seqObj "list" #[] e1):=⟨_,get?_update_seq ho fun _=>#[]⟩
 have k1:∀b o,b≠a->s.heap.get? b=some o->(s.heap.update a (Obj.mapSeq fun _=>(#[]:Array Value))).get? b=some o:=fun b o hb e=>(yc _ _ (xw hb)).trans e
 generalize s.heap.update a (Obj.mapSeq fun _=>(#[]:Array Value))=g1 at ho1 k1 ⊢
 refine xc (seqEpoch_at ho1 rfl (xc (wpAny_newTuple (xc (wpAny_newList (xC ?_) (vg _))) (by simpa using lz))))
 have ho2:=xm (seqObj "list" #[] 0) (xm (seqObj "tuple" vs.toArray 0) ho1)
 have k2:∀b o,b≠a->s.heap.get? b=some o->((g1.push (seqObj "tuple" vs.toArray 0)).push (seqObj "list" #[] 0)).get? b=some o:=fun b o hb e=>xm _ (xm _ (k1 b o hb e))
 show wpAny (model prog w) A _ P E { s with heap:=(g1.push (seqObj "tuple" vs.toArray 0)).push (seqObj "list" #[] 0) }
 generalize (g1.push (seqObj "tuple" vs.toArray 0)).push (seqObj "list" #[] 0)=g2 at ho2 k2 ⊢
 dsimp only
 have hk2:=hk.imp fun _ _ q=>q.kept' ho (show Value.type "list"≠Value.type "tuple" by decide) k2
 have fin:∀(st:SortSt) (vs':List Value),vs'.Perm vs->A2 (Ek g2 n) (srt ds) vs'->failedOf st=none->(arrOf st).map (·.2)=vs'.toArray->
   wpAny (model prog w) A (do
    let touched:=(<- seqEpoch a) != e1
    Builtin.List.listUpdate (.ref a) fun _=>(arrOf st).map (·.2)
    if let some e:=failedOf st then rule "list.sort.comparison-raised";throw e
    if touched then rule "list.sort.modified";raiseError "ValueError" "list modified during sort"
    ret .none) P E { s with heap:=g2 }:=fun st vs' pm a2 hf ha=>by
  refine xc (seqEpoch_at ho2 rfl ?_)
  rw[ha]
  refine xc (listUpdate_at ho2 rfl ?_ (vg _) (by simp;rw[pm.length_eq];exact Nat.le_succ_of_le lz))
  rw[hf]
  simp only[bne_self_eq_false,vi,xQ]
  obtain⟨c,hc⟩:∃c,(g2.update a (Obj.mapSeq fun _=>vs'.toArray)).get? a=some (seqObj "list" vs'.toArray c):=⟨_,get?_update_seq ho2 fun _=>vs'.toArray⟩
  have k3:∀b o,b≠a->g2.get? b=some o->(g2.update a (Obj.mapSeq fun _=>vs'.toArray)).get? b=some o:=fun b o hb e=>(yc _ _ (xw hb)).trans e
  exact xf (h vs' c _ pm (a2.imp fun _ _ q=>q.kept' ho2 (show Value.type "list"≠Value.type "tuple" by decide) k3) (fun b o hb e=>k3 b o hb (k2 b o hb e)) hc)
 by_cases c2:vs.toArray.size<2
 ·rw[xg c2,xg c2]
  refine xc (xf ?_)
  rw[StateT.run_pure]
  refine xc (xf ?_)
  refine fin (SortSt.mk' general' (vs.toArray.zip vs.toArray) #[] 7 none) vs (.refl _) ?_ rfl ?_
  ·have:srt ds=ds:=by
    have hl:ds.length<2:=by rw[hk.length];simpa using c2
    match ds,hl with
    | [],_=>rfl
    | [d],_=>rfl
   rw[this];exact hk2
  ·show((vs.toArray.zip vs.toArray)).map (·.2)=_
   apply u4.mp
   simp[List.map_snd_zip]
 ·rw[xh c2,xh c2]
  refine xc (zSs hk2 (fun z=>by subst z;simp at c2) fun κ hκ=>?_)
  refine xc (vt (zNp (Q:=fun st s'=>s'={ s with heap:=g2 }/\∃vs',vs'.Perm vs/\A2 (Ek g2 n) (srt ds) vs'/\failedOf st=none/\(arrOf st).map (·.2)=vs'.toArray) hκ hz hk2 hu fun st vs' a b c d=>⟨rfl,vs',a,b,c,d⟩) ?_ fun _ _ e=>e)
  rintro⟨⟨⟩,st⟩ s' ⟨rfl,vs',a1,a2,a3,a4⟩
  exact fin st vs' a1 a2 a3 a4
theorem zGz {r:Value}{m:Nat}{G:List D->List Value->Prop}{Q:Value->Shared->Prop}(hu:A.units+2+n<cLine)
  (hcol:∀R:List Value->Shared->Prop,(∀(h':Heap) (tk:Nat) (ds:List D) (vs:List Value),m<=h'.objs.size->(∀b o,s.heap.get? b=some o->h'.get? b=some o)->A2 (Ek h' n) ds vs->vs.length<=2 ^ 21->G ds vs->R vs { s with heap:=h',toks:=tk })->wpAny (model prog w) A.in1 (collect r) R E s)
  (h:∀(ds:List D) (vs vs':List Value) (c tk:Nat) (h':Heap) (L:Addr),G ds vs->vs.length<=2 ^ 21->vs'.Perm vs->A2 (Ek h' n) (srt ds) vs'->m<=L->(∀b o,s.heap.get? b=some o->h'.get? b=some o)->h'.get? L=some (seqObj "list" vs'.toArray c)->Q (.ref L) { s with heap:=h',toks:=tk }):
  wpAny (model prog w) A (call (.builtin "sorted") [r]) Q E s:=by
 refine Calls.call_function_entry kind_sorted plain_sorted entry_sorted (args_sorted1 _) ?_
 unfold Builtin.«sorted»
 refine xc (xf (xc (hcol _ fun h' tk ds vs sz kp hk hz hg=>?_)))
 have lz:vs.length<=sizeLine:=by rw[xZ];lia
 refine xc (wpAny_newList ?_ (by simpa using lz))
 have hoL:(h'.push (seqObj "list" vs.toArray 0)).get? h'.objs.size=some (seqObj "list" vs.toArray 0):=xD _ rfl
 have k0:∀b o,h'.get? b=some o->(h'.push (seqObj "list" vs.toArray 0)).get? b=some o:=fun b o e=>xm _ e
 refine xc (xC (xS slot_list_sort ⟨_,hoL,rfl⟩ entry_list_sort (zK9 hoL (hk.imp fun _ _ q=>q.kept fun b o e _=>k0 b o e) hz (by show A.units+1+1+n<cLine;lia) fun vs' c h2 pm a2 k2 hD=>⟨_,rfl,?_⟩) (args_list_sort _)))
 exact xf ⟨_,rfl,h ds vs vs' c tk h2 _ hg hz pm a2 sz (fun b o e=>k2 b o (xr (xl (kp b o e))) (k0 b o (kp b o e))) hD⟩
end
end EK
namespace TU
open PySem TB EK TS
open TS (sObj Tab.ft TabP.ft gate adr)
open DS (D)
open Classical
section
variable {prog:Program}{w:World}{A:Around}{E:Value->Shared->Prop}{s:Shared}{dp:Nat}
noncomputable abbrev EA (h:Heap) (dp:Nat) (k:D) (a:Addr):Prop:=Ek h (dp+1) k (.ref a)
theorem unseen (hdp:dp+1<=8) {a:Addr}{ks:D}{l:List Value}{Q:Bool->Shared->Prop}(hk:EA s.heap dp ks a) (hl:∀v∈l,∃b ls,v=.ref b/\EA s.heap dp ls b) (h:Q false s):
  wpAny (model prog w) A (searchCouldBeSeen (.ref a) l) Q E s:=by
 unfold searchCouldBeSeen
 refine xc (vX _ (fun rest r s'=>r.1=none/\s'=s/\∀v∈rest,∃b ls,v=.ref b/\EA s.heap dp ls b) _ ?_ ?_ _ _ ⟨rfl,rfl,hl⟩)
 ·rintro v rest r s' ⟨hr,rfl,al⟩
  obtain⟨b,ls,rfl,hb⟩:=al v xO
  have rest':∀v∈rest,∃b ls,v=.ref b/\EA s'.heap dp ls b:=fun u hu=>al u (vd _ hu)
  dsimp only
  split
  ·exact xf ⟨rfl,rfl,rest'⟩
  ·refine xc (zFi (dp+1) 8 hk hdp ?_)
   rw[xh (by decide)]
   refine xc (zFi (dp+1) 8 hb hdp ?_)
   rw[xh (by decide)]
   refine xc (zFj (dp+1) 8 hk hdp ?_)
   rw[xh (by decide)]
   refine xc (zFj (dp+1) 8 hb hdp ?_)
   rw[xh (by decide)]
   exact xf ⟨rfl,rfl,rest'⟩
 ·rintro⟨r1,r2⟩ s' ⟨hr,rfl,_⟩
  simp only at hr
  subst hr
  exact xf h
noncomputable def kv (κ:Addr->D) (e:Int × Value):D:=κ (adr e.2)
noncomputable def Els (dp:Nat) (κ:Addr->D) (h:Heap) (es:Array (Int × Value)):Prop:=∀e∈es.toList,∃b,e.2=.ref b/\EA h dp (κ b) b/\e.1=hD (κ b)
theorem search {κ:Addr->D}{S x:Addr}{es:Array (Int × Value)}{ep:Nat}{t:SetTable}{b:Bool}{Q:SetFound->Shared->Prop}(hdp:dp+1<=8) (hu:A.units+(dp+1)<cLine) (ho:s.heap.get? S=some (sObj es ep t)) (T:Tab t es.size b)
  (hk:EA s.heap dp (κ x) x) (he:Els dp κ s.heap es) (h1:(∃e∈es.toList,kv κ e=κ x)->Q (.there none) s)
  (h2:∀M,t.slot (adv t M (t.probeStart (hD (κ x)))).j=.empty->(∀m',m'<M->∃i,∃hi:i<es.size,t.slot (adv t m' (t.probeStart (hD (κ x)))).j=.live i/\(es[i].1≠hD (κ x)\/kv κ es[i]≠κ x))->Q (.free (adv t M (t.probeStart (hD (κ x)))).j false) s):
  ∀(f m c:Nat) (st:Option SetTable.Probe),m<f->m<10*SetTable.turns t.mask->st.getD (t.probeStart (hD (κ x)))=adv t c (t.probeStart (hD (κ x)))->
   (∀m',m'<c->∃i,∃hi:i<es.size,t.slot (adv t m' (t.probeStart (hD (κ x)))).j=.live i/\(es[i].1≠hD (κ x)\/kv κ es[i]≠κ x))->
   Far t (adv t c (t.probeStart (hD (κ x)))) m->wpAny (model prog w) A (setSearchFrom S (.ref x) (hD (κ x)) true f st) Q E s:=by
 generalize ehx:hD (κ x)=hx at h2 ⊢
 have lv:∀{j i:Nat},t.slot j=.live i->i<es.size:=fun {j i} hj=>by
  obtain⟨z,_⟩:=x8.mp (zH7 T hj)
  rw[T.size]at z;exact z
 intro f
 induction f with
 | zero=>intro m c st hm;lia
 | succ f ih=>
  intro m c st hm hm2 est seen fr
  unfold setSearchFrom
  refine xc (xJ ho rfl (Tab.ft T) ?_)
  dsimp only
  rw[T.way]
  rw[xh (by decide)]
  unfold SetTable.probe
  rw[est]
  have more:∀d,(∀d',d'<d->∃i,t.slot (adv t d' (adv t c (t.probeStart hx))).j=.live i/\(((es[i]?.map (·.1)).getD 0 == hx)=false))->∀m',m'<c+d->∃i,∃hi:i<es.size,t.slot (adv t m' (t.probeStart hx)).j=.live i/\(es[i].1≠hx\/kv κ es[i]≠κ x):=fun d hd m' hm'=>by
   rcases vj m' c with z|z
   ·exact seen m' z
   ·obtain⟨d',rfl⟩:∃d',m'=c+d':=⟨m' - c,by nofun⟩
    obtain⟨i,e1,e2⟩:=hd d' (by nofun)
    rw[<- zAw]at e1
    have hi:=lv e1
    refine⟨i,hi,e1,.inl fun z=>?_⟩
    rw[xT hi]at e2
    have:(es[i].1 == hx)=false:=e2
    rw[z]at this;simp at this
  rcases zE7 T.nod _ m _ hm2 fr with⟨d,_,e,hj,hd⟩|⟨d,i,hlt,e,hj,hd,fr'⟩
  ·rw[e]
   dsimp only
   rw[<- zAw]at hj ⊢
   exact xf (h2 (c+d) hj (more d hd))
  ·rw[e]
   dsimp only
   have hi:=lv hj
   have ei:=xT hi
   obtain⟨y,ey,hy,eyh⟩:=he es[i] (by simp)
   have e2:es[i]?=some (es[i].1,.ref y):=by rw[ei,<- ey]
   have ky:kv κ es[i]=κ y:=by unfold kv;rw[ey];rfl
   rw[e2]
   dsimp only
   refine gate (fun Q' hq=>unseen hdp hk (fun v hv=>?_) hq) ?_
   ·obtain⟨e',he',rfl⟩:=xA.mp hv
    obtain⟨b',q1,q2,_⟩:=he e' (by
     have:=Array.mem_filter.mp (u9.mp he')
     exact u9.mpr this.1)
    exact⟨b',_,q1,q2⟩
   refine xc (xC (zJg (dp+1) hy hk hu ?_))
   refine xc (xJ ho rfl (Tab.ft T) ?_)
   dsimp only
   by_cases cc:κ y=κ x
   ·rw[xB cc]
    exact xf (h1 ⟨es[i],by simp,ky.trans cc⟩)
   ·rw[xy cc]
    rw[xh (by decide)]
    have em:t.sameMemory t.moves t.mask=some true:=by unfold SetTable.sameMemory;simp
    rw[em]
    dsimp only
    rw[xg rfl,hj]
    dsimp only
    rw[e2]
    dsimp only
    refine xc (wpAny_isSame_ref_self ?_)
    rw[xg rfl]
    refine xc (xf ?_)
    dsimp only
    rw[xh (by decide)]
    refine ih (m-(d+1)) (c+(d+1)) _ (by nofun) (by nofun) (zAw t c (d+1) _).symm ?_ (by rw[zAw];exact fr')
    intro m' hm'
    rcases vj m' (c+d)with z|z
    ·exact more d hd m' z
    ·have:m'=c+d:=by nofun
     subst this
     rw[<- zAw]at hj
     exact⟨i,hi,hj,.inr (by rw[ky];exact cc)⟩
noncomputable def IsS (dp:Nat) (κ:Addr->D) (h:Heap) (S:Addr) (es:Array (Int × Value)) (b:Bool):Prop:=∃ep t,h.get? S=some (sObj es ep t)/\Tab t es.size b/\Els dp κ h es/\Chs t (es.toList.map (·.1))/\(es.toList.map (kv κ)).Nodup
noncomputable def IsW (dp:Nat) (κ:Addr->D) (h:Heap) (S:Addr) (es:Array (Int × Value)) (b:Bool):Prop:=∃ep t,h.get? S=some (sObj es ep t)/\TabW t es.size b/\Els dp κ h es/\(es.toList.map (kv κ)).Nodup
theorem IsS.wk {κ:Addr->D}{h:Heap}{S:Addr}{es:Array (Int × Value)}{b:Bool}(i:IsS dp κ h S es b):IsW dp κ h S es b:=by
 obtain⟨ep,t,ho,T,he,_,nd⟩:=i
 exact⟨ep,t,ho,T.w,he,nd⟩
theorem Els.keeps {κ:Addr->D}{h h':Heap}{S:Addr}{es es':Array (Int × Value)}{ep:Nat}{t:SetTable}(he:Els dp κ h es) (ho:h.get? S=some (sObj es' ep t)) (hs:Heap.SameBut S h h'):Els dp κ h' es:=fun e hm=>by
 obtain⟨b,e1,q,e2⟩:=he e hm
 refine⟨b,e1,q.kept fun c o ec et=>(hs.2 c fun z=>?_).trans ec,e2⟩
 subst z
 rw[ho]at ec
 cases ec
 exact absurd (show Value.type "set"=Value.type "tuple" from et) (by decide)
theorem zM6 {κ:Addr->D}{x:Addr}{es:Array (Int × Value)}{t:SetTable}{b:Bool}{h:Heap}{M:Nat}(T:Tab t es.size b) (he:Els dp κ h es) (C:Chs t (es.toList.map (·.1))) (hM:t.slot (adv t M (t.probeStart (hD (κ x)))).j=.empty)
  (seen:∀m',m'<M->∃i,∃hi:i<es.size,t.slot (adv t m' (t.probeStart (hD (κ x)))).j=.live i/\(es[i].1≠hD (κ x)\/kv κ es[i]≠κ x)):κ x ∉ es.toList.map (kv κ):=by
 intro hm
 obtain⟨e,hem,ek⟩:=xA.mp hm
 obtain⟨i,hi,rfl⟩:=vM.mp hem
 have hi':i<es.size:=by simpa using hi
 obtain⟨y,ey,_,eh⟩:=he _ hem
 have ky:κ y=κ x:=by
  have:kv κ es.toList[i]=κ y:=by unfold kv;rw[ey];rfl
  rw[<- this,ek]
 rw[ky]at eh
 have hp:i<t.place.size:=by rw[T.size];exact hi'
 obtain⟨m,em,al⟩:=C (t.place[i],es.toList[i].1) (vM.mpr ⟨i,by have:=Nat.lt_min.mpr ⟨hp,hi'⟩;simpa using this,by simp⟩)
 dsimp only at em al
 rw[eh]at em al
 rcases uW m M with z|z|z
 ·obtain⟨i',hi2,q1,q2⟩:=seen m z
  rw[em]at q1
  have q3:=zH7 T q1
  obtain⟨z3,e3⟩:=x8.mp q3
  have:=zHs T.up (by simpa using z3) (by simpa using hp) (by simpa using e3)
  subst this
  rcases q2 with q2|q2
  ·exact q2 (by simpa using eh)
  ·exact q2 (by simpa using ek)
 ·subst z
  rw[em]at hM
  exact(zG8 T _).mp hM (by simp)
 ·exact(zG8 T _).mp hM (al M z)
theorem zGs {κ:Addr->D}{S x:Addr}{es:Array (Int × Value)}{b:Bool}{Q:Bool->Shared->Prop}(hdp:dp+1<=8) (hu:A.units+(dp+1)<cLine) (hS:IsS dp κ s.heap S es b) (hk:EA s.heap dp (κ x) x) (hn:es.size<1200)
  (h1:(∃e∈es.toList,kv κ e=κ x)->Q false s) (h2:∀h' es',Heap.SameBut S s.heap h'->IsS dp κ h' S es' b->es'.toList.Perm ((hD (κ x),.ref x)::es.toList)->Q true { s with heap:=h' }):
  ∀f,wpAny (model prog w) A (setAddHashedIn S (.ref x) (hD (κ x)) (f+1)) Q E s:=by
 intro f
 obtain⟨ep,t,ho,T,he,C,nd⟩:=hS
 unfold setAddHashedIn
 refine xc (xJ ho rfl (Tab.ft T) ?_)
 dsimp only
 have eb:byScan (.ref x) es=false:=by unfold byScan;rfl
 rw[eb]
 rw[xh (by decide)]
 obtain⟨m,hm,fr⟩:=T.start (hD (κ x))
 refine xc (search hdp hu ho T hk he (fun q=>?_) (fun M hM seen=>?_) 100000 m 0 none (vS hm T.turns) hm rfl (fun m' h=>by nofun) fr)
 ·exact xf (h1 q)
 ·have fk:=zM6 T he C hM seen
  have alM:∀m',m'<M->(adv t m' (t.probeStart (hD (κ x)))).j∈t.place.toList:=fun m' h=>by
   obtain⟨i,_,q,_⟩:=seen m' h
   exact zSn T q
  obtain⟨C1,ep2⟩:=zRh T (by simp) C hM rfl alM
  have TP:=T.put hM
  generalize (adv t M (t.probeStart (hD (κ x)))).j=j at TP C1 ep2 ⊢
  dsimp only
  refine xc (xJ ho rfl (Tab.ft T) ?_)
  dsimp only
  generalize ePT:t.put j=PT at TP C1 ep2
  obtain⟨t1,p⟩:=PT
  dsimp only at TP C1 ep2 ⊢
  rw[TP.plain]
  rw[xg rfl]
  refine xc (zIi (dp+1) 8 hk hdp ?_)
  rw[xg rfl]
  generalize ehx:hD (κ x)=hx at C1 h2 ⊢
  have pm:=ins_perm es p (hx,Value.ref x)
  have sz:=zFd es p (hx,Value.ref x)
  have C2:Chs t1 ((SetTable.insertAt es p (hx,Value.ref x)).toList.map (·.1)):=by
   rw[zD6,vQ,xx,List.map_take,List.map_drop]
   exact C1
  generalize SetTable.insertAt es p (hx,Value.ref x)=es1 at pm sz C2 ⊢
  have nd1:(es1.toList.map (kv κ)).Nodup:=by
   refine(pm.map (kv κ)).nodup_iff.mpr ?_
   rw[xx]
   exact x4.mpr ⟨fk,nd⟩
  refine xc (uP ho rfl ?_ (by rw[sz,xZ];lia))
  have hg:=vL (Obj.putSet es1 t1) ho rfl
  have sb:=vF s.heap S (Obj.putSet es1 t1)
  have he1:Els dp κ (s.heap.update S (Obj.putSet es1 t1)) es1:=fun e hm=>by
   rcases xn.mp (pm.mem_iff.mp hm)with rfl|hm
   ·exact Els.keeps (es:=#[(hx,Value.ref x)]) (fun e hm=>by
     have:e=(hx,Value.ref x):=by simpa using hm
     subst this;exact⟨x,rfl,hk,ehx.symm⟩) ho sb _ (by simp)
   ·exact Els.keeps he ho sb e hm
  rw[<- sz]at TP
  by_cases c:t1.tooFull=true
  ·rw[xg (by rw[c];rfl)]
   unfold setRelay
   refine xc (xc (xJ hg rfl (TabP.ft TP) ?_))
   dsimp only
   obtain⟨hl,t2,order,er,T2,po,C3⟩:=zKn TP c (by nofun) (es1.map (·.1)) (by simp)
   rw[<- sz]
   rw[xh (by simpa using hl)]
   rw[er]
   have pe:(order.filterMap (es1[·]?)).toList.Perm es1.toList:=by
    rw[yi]
    refine(po.filterMap _).trans ?_
    have:=filterMap_getElem?_range es1
    rw[this]
   have zz:(order.filterMap (es1[·]?)).size=es1.size:=by rw[<- xW,pe.length_eq,xW]
   have C4:Chs t2 ((order.filterMap (es1[·]?)).toList.map (·.1)):=by
    have e5:(order.filterMap (es1[·]?)).toList.map (·.1)=order.toList.map fun k=>(es1.map (·.1)).toList.getD k 0:=by
     rw[yi]
     have al:∀k∈order.toList,k<es1.size:=fun k hk=>vB.mp (po.mem_iff.mp hk)
     clear C3 po er pe zz
     generalize order.toList=l at al
     induction l with
     | nil=>rfl
     | cons k l ih=>
      have hk:=al k (.head _)
      rw[vY,xT hk]
      simp only[xx]
      rw[ih fun k hk=>al k (.tail _ hk)]
      congr 1
      simp[hk]
    rw[e5];exact C3
   refine xc ?_
   show wpAny _ _ (if((order.filterMap (es1[·]?)).size != es1.size)=true then _ else pure (order.filterMap (es1[·]?),t2)) _ _ _
   rw[xh (by simp[zz])]
   refine xf ?_
   dsimp only
   generalize order.filterMap (es1[·]?)=es2 at pe zz C4 ⊢
   refine uP hg rfl ?_ (by rw[zz,sz,xZ];lia)
   have hg2:=vL (Obj.putSet es2 t2) hg rfl
   have sb2:=vF (s.heap.update S (Obj.putSet es1 t1)) S (Obj.putSet es2 t2)
   refine xf (h2 _ es2 (sb.trans sb2) ⟨_,_,hg2,by rw[zz];exact T2,?_,C4,(pe.map (kv κ)).nodup_iff.mpr nd1⟩ (pe.trans pm))
   exact Els.keeps (fun e hm=>he1 e (pe.mem_iff.mp hm)) hg sb2
  ·rw[xh (by simpa using c)]
   exact xf (h2 _ es1 sb ⟨_,_,hg,TP.tab (by simpa using c),he1,C2,nd1⟩ pm)
theorem add {κ:Addr->D}{S x:Addr}{es:Array (Int × Value)}{b:Bool}{Q:Bool->Shared->Prop}(hdp:dp+1<=8) (hu:A.units+(dp+1)<cLine) (hS:IsS dp κ s.heap S es b) (hk:EA s.heap dp (κ x) x) (hn:es.size<1200)
  (h1:∀tk,s.toks<=tk->(∃e∈es.toList,kv κ e=κ x)->Q false { s with toks:=tk }) (h2:∀h' es' tk hx,s.toks<=tk->Heap.SameBut S s.heap h'->IsS dp κ h' S es' b->es'.toList.Perm ((hx,.ref x)::es.toList)->Q true { s with heap:=h',toks:=tk }):wpAny (model prog w) A (setAdd S (.ref x)) Q E s:=by
 unfold setAdd
 refine xC (xc (zM9 (dp+1) hk hu fun tk htk=>?_))
 unfold setAddHashed
 refine xC ?_
 exact zGs (s:={ s with toks:=tk }) hdp hu hS hk hn (fun q=>h1 _ htk q) (fun h' es' sb i p=>h2 h' es' _ _ htk sb i p) 99999
end
end TU
namespace TU
open PySem TB EK TS
open TS (sObj Tab.ft TabP.ft gate adr nObj zAa zAl)
open DS (D)
open Classical
section
variable {prog:Program}{w:World}{A:Around}{R:Result->Shared->Prop}{I:Addr}{fp wr:List Addr}{G:Array GenState->Array GenState->Prop}{n:Nat}{P:Nat->Value->Prop}{St:Nat->Shared->Prop}{dp:Nat}
noncomputable def Met (n:Nat) (P:Nat->Value->Prop) (es:Array (Int × Value)):Prop:=∀e∈es.toList,∃j,j<n/\P j e.2
theorem IsS.moved {κ:Addr->D}{h h':Heap}{S:Addr}{es:Array (Int × Value)}{b:Bool}{bad:List Addr}(i:IsS dp κ h S es b) (hS:S ∉ bad) (k:∀c o,c ∉ bad->h.get? c=some o->h'.get? c=some o) (hb:∀c∈bad,∀o,h.get? c=some o->o.cls≠.type "tuple"):IsS dp κ h' S es b:=by
 obtain⟨ep,t,ho,T,he,C,nd⟩:=i
 refine⟨ep,t,k _ _ hS ho,T,fun e hm=>?_,C,nd⟩
 obtain⟨c,e1,q,e2⟩:=he e hm
 exact⟨c,e1,q.kept fun b o eb et=>k _ _ (fun z=>hb b z o eb et) eb,e2⟩
noncomputable def Cov (κ:Addr->D) (n:Nat) (P:Nat->Value->Prop) (es:Array (Int × Value)):Prop:=∀j v,j<n->P j v->∃e∈es.toList,kv κ e=κ (adr v)
theorem loop {κ:Addr->D}(W:WalksS prog w A.in1 I fp wr G n P St) (S:Addr) (hSf:S ∉ fp) (hdp:dp+1<=8) (hu:A.in1.units+(dp+1)<cLine) (h0:Heap) (hP:∀i v,P i v->∃a,v=.ref a/\EA h0 dp (κ a) a) (hbad:∀c∈S::wr,∀o,h0.get? c=some o->o.cls≠.type "tuple") (hPf:∀i v v',P i v->P i v'->v=v') (hn:n<=1199) {led:Bool}
  (hwr:∀i s,St i s->∀c∈wr,∀o,s.heap.get? c=some o->o.cls≠.type "tuple"):
  ∀(k i:Nat) (s:Shared) (es:Array (Int × Value)),n-i=k->i<=n->St i s->IsS dp κ s.heap S es led->es.size<=i->Met n P es->Cov κ i P es->(∀c o,c ∉ S::wr->h0.get? c=some o->s.heap.get? c=some o)->
   (∀s' es',Moved (S::wr) G s s'->IsS dp κ s'.heap S es' led->es'.size<=n->Met n P es'->Cov κ n P es'->R (.ok (.ret .none)) s')->
   codeAny (model prog w) A (.builtin "set.update.loop" ⟨[.ref S,.ref I],[]⟩) R s:=by
 have hSw:S ∉ wr:=fun h=>hSf (W.sub _ h)
 have sub:∀b∈wr,b∈S::wr:=fun b hb=>.tail _ hb
 intro k
 induction k with
 | zero=>
  intro i s es hk hi hst hS hz hM hC hkp hR
  obtain rfl:i=n:=by nofun
  refine uZ PyProof.Rows.F.entry_set_update_loop ?_
  rw[Around.under_plainId yj _]
  show wpAny _ A.in1 (pyNext (.ref I) >>= _) _ _ s
  refine xc (W.done s _ _ hst fun s' hm=>?_)
  show wpAny _ A.in1 (ret Value.none) _ _ s'
  exact xf (hR s' es (hm.mono sub) (IsS.moved hS hSw hm.heap (hwr _ _ hst)) hz hM hC)
 | succ k ih=>
  intro i s es hk hi hst hS hz hM hC hkp hR
  have hlt:i<n:=by nofun
  refine uZ PyProof.Rows.F.entry_set_update_loop ?_
  rw[Around.under_plainId yj _]
  show wpAny _ A.in1 (pyNext (.ref I) >>= _) _ _ s
  refine xc (W.item i s _ _ hlt hst fun v s' hp hst' hm=>?_)
  obtain⟨a,rfl,hq⟩:=hP i v hp
  have hk':=hq.kept fun b o eb et=>by
   have hb:b ∉ S::wr:=fun z=>hbad b z o eb et
   exact hm.heap b o (fun z=>hb (sub b z)) (hkp b o hb eb)
  have hS':=IsS.moved hS hSw hm.heap (hwr _ _ hst)
  show wpAny _ A.in1 (holding [Value.ref a] (setAdd S (.ref a)) >>= _) _ _ s'
  refine xc (xC (add hdp hu hS' hk' (by nofun) (fun tk htk there=>?_) (fun h' es' tk hx htk sb i' pm=>?_)))
  ·refine xf ⟨plainId_quiet yj _,ih (i+1) { s' with toks:=tk } es (by nofun) hlt (W.frame _ s' s'.heap tk hst' htk fun _ _ _ e=>e) hS' (by nofun) hM (fun j v' hj hv'=>?_) (fun c o hc e=>hm.heap c o (fun z=>hc (sub c z)) (hkp c o hc e)) fun s2 es2 m2 i2 z2 w2 c2=>?_⟩
   ·rcases vj j i with z|z
    ·exact hC j v' z hv'
    ·have:j=i:=by nofun
     subst this
     rw[hPf _ _ _ hv' hp]
     exact there
   ·exact hR s2 es2 (Moved.trans W.gtrans ((hm.mono sub).then_heap htk fun _ _ _ e=>e) m2) i2 z2 w2 c2
  ·have hsz:es'.size=es.size+1:=by have:=pm.length_eq;simpa using this
   refine xf ⟨plainId_quiet yj _,ih (i+1) { s' with heap:=h',toks:=tk } es' (by nofun) hlt (W.frame _ s' h' tk hst' htk fun c hc o e=>?_) i' (by nofun) (fun e he=>?_) (fun j v' hj hv'=>?_) (fun c o hc e=>?_) fun s2 es2 m2 i2 z2 w2 c2=>?_⟩
   ·rw[sb.2 c fun z=>hSf (z ▸ hc)];exact e
   ·rcases xn.mp (pm.mem_iff.mp he)with rfl|he
    ·exact⟨i,hlt,hp⟩
    ·exact hM e he
   ·rcases vj j i with z|z
    ·obtain⟨e,he,ek⟩:=hC j v' z hv'
     exact⟨e,pm.mem_iff.mpr (vd _ he),ek⟩
    ·have:j=i:=by nofun
     subst this
     rw[hPf _ _ _ hv' hp]
     exact⟨(hx,.ref a),pm.mem_iff.mpr xO,rfl⟩
   ·rw[sb.2 c fun z=>hc (z ▸ xO)]
    exact hm.heap c o (fun z=>hc (sub c z)) (hkp c o hc e)
   ·refine hR s2 es2 (Moved.trans W.gtrans ((hm.mono sub).then_heap htk fun c o hc e=>?_) m2) i2 z2 w2 c2
    rw[sb.2 c fun z=>hc (z ▸ xO)];exact e
end
section
variable {prog:Program}{w:World}{A:Around}{E:Value->Shared->Prop}{s:Shared}{dp:Nat}
theorem zNs {κ:Addr->D}{l:Addr}{items:Array Value}{Q:Value->Shared->Prop}(hh:A.handled=none) (hl:s.heap.IsList l items) (hdp:dp+1<=8) (hu:A.units+20<cLine) (hn:items.size<=1199)
  (hk:∀v∈items.toList,∃a,v=.ref a/\EA s.heap dp (κ a) a)
  (h:∀(h':Heap) (tk:Nat) (es:Array (Int × Value)),IsS dp κ h' s.heap.objs.size es (zAa w)->es.size<=items.size->(∀e∈es.toList,e.2∈items.toList)->(∀v∈items.toList,∃e∈es.toList,kv κ e=κ (adr v))->
   (∀b o,b<s.heap.objs.size->s.heap.get? b=some o->h'.get? b=some o)->Q (.ref s.heap.objs.size) { s with heap:=h',toks:=tk }):
  wpAny (model prog w) A (call (.type "set") [.ref l]) Q E s:=by
 obtain⟨cc,tl,hmro⟩:=vc.mro;have hmade:=vc.made;have hsub:=vc.sub
 refine wpAny_call (codeAny_of_tree (?_))
 refine xf ⟨Code.quiet_builtin _ (by decide +kernel),uZ F.entry_type_call ?_⟩;rw[Around.under_plain (weight_type_call_type "set" [.ref l] []) rfl]
 have h1:=vc.notType;have h2:=vc.canCreate;have hct:=F.typeCall_set_1 (.ref l)
 repeat (any_goals (first|assumption|wp_step))
 refine uh (zAl (.ref l) (E:=E) (Q₁:=fun obj s₁=>obj=.ref s.heap.objs.size/\s₁={ s with heap:=s.heap.push (nObj w) }) ⟨rfl,rfl⟩) fun r s₁ hr=>?_
 cases r with
 | error e=>exact hr
 | ok fl=>
  cases fl with
  | ret obj=>
   obtain⟨rfl,rfl⟩:=hr
   have hS:(s.heap.push (nObj w)).get? s.heap.objs.size=some (nObj w):=xD _ rfl
   have hT:Shared.TypeIs { s with heap:=s.heap.push (nObj w) } (.ref s.heap.objs.size) "set":=⟨_,hS,rfl⟩
   have hli:=vc.init.lookup;have hbi:=vc.init.bind (.ref s.heap.objs.size)
   repeat (any_goals (first|assumption|wp_step))
   refine uh (codeAny_call_builtin (R:=wants (fun r s₂=>r=.none/\∃h' tk es,s₂={ s with heap:=h',toks:=tk }/\IsS dp κ h' s.heap.objs.size es (zAa w)/\es.size<=items.size/\(∀e∈es.toList,e.2∈items.toList)/\(∀v∈items.toList,∃e∈es.toList,kv κ e=κ (adr v)) /\
     (∀b o,b<s.heap.objs.size->s.heap.get? b=some o->h'.get? b=some o)) E) vc.init.plain F.entry_set_init (check_set_init_1 hT ?_)) fun r₂ s₂ hr₂=>?_
   ·have hlt:l<s.heap.objs.size:=by obtain⟨o,ho,_⟩:=hl;exact xl ho
    have hl1:(s.heap.push (nObj w)).IsList l items:=hl.push _
    have hTl:Shared.TypeIs { s with heap:=s.heap.push (nObj w) } (.ref l) "list":=by obtain⟨o,ho,hc,_⟩:=hl1;exact⟨o,ho,hc⟩
    have q1:=F.sub_list_set;have q2:=F.sub_list_frozenset;have q3:(Value.type "list" == Value.type "dict")=false:=by decide
    unfold Builtin.«set.__init__» noKeywords Builtin.Frozenset.updateFrom
    generalize hPI:pyIter=PI
    wp_walk
    subst hPI
    refine uV hl1 (xc (wpAny_runValue ?_))
    have hs2:(s.heap.push (nObj w)).objs.size=s.heap.objs.size+1:=by rw[vy]
    have hneI:l≠(s.heap.push (nObj w)).objs.size:=by rw[hs2];exact xr (uq hlt)
    have hh3:A.in1.in1.in1.handled=none:=by simp[hh]
    have key:∀(i:Nat) (v:Value),items[i]?=some v->∃a,v=.ref a/\EA s.heap dp (κ a) a:=fun i v hv=>hk v (by obtain⟨z,e⟩:=x8.mp hv;rw[<- e];simp)
    have bad:∀c∈s.heap.objs.size::[(s.heap.push (nObj w)).objs.size],∀o,s.heap.get? c=some o->o.cls≠.type "tuple":=fun c hc o e=>by
     have:=xl e
     rw[hs2]at hc
     rcases xn.mp hc with rfl|hc
     ·exact absurd this (vn _)
     ·rw[vk.mp hc]at this
      exact absurd this (Nat.not_lt.mpr (Nat.le_succ _))
    have kp:∀c o,s.heap.get? c=some o->((s.heap.push (nObj w)).push { cls:=.type "list_iterator",data:=.fields #[.ref l,.int 0 0] }).get? c=some o:=fun c o e=>xm _ (xm _ e)
    refine loop (h0:=s.heap) ((Walks.list hh3 _ l hneI items).toS) s.heap.objs.size ?nA hdp (by show A.units+1+1+1+(dp+1)<cLine;lia) key bad (fun i v v' q q'=>xP (q.symm.trans q')) hn ?nB (items.size-0) 0 _ #[] (by nofun) (vg _) ⟨⟨_,xD _ rfl,rfl,rfl⟩,hl1.push _⟩
     ⟨0,_,xm _ hS,zDp _,(fun e he=>by cases he),(fun q hq=>by cases hq),uK⟩ (vg _) (fun e he=>by cases he) (fun j v hj=>by nofun) (fun c o _ e=>kp c o e) ?nD
    case nA=>
     rw[hs2];simp;exact vR hlt
    case nB=>
     rintro i s' ⟨⟨o,ho,hc,_⟩,_⟩ c hcm o' ho'
     have:c=(s.heap.push (nObj w)).objs.size:=by simpa using hcm
     subst this
     rw[ho]at ho';cases ho';rw[hc];decide
    case nD=>
     intro s' es' mv i' z' m' c'
     obtain⟨h',g',d',tk',os'⟩:=s'
     have eg:=mv.gens
     have ed:=mv.drawn
     have eo:=mv.os
     subst eg ed eo
     refine xf (xf ⟨rfl,h',tk',es',rfl,i',z',fun e he=>?_,fun v hv=>?_,fun b o hb e=>?_⟩)
     ·obtain⟨j,hj,hp⟩:=m' e he
      obtain⟨z,e2⟩:=x8.mp hp
      rw[<- e2];simp
     ·obtain⟨j,hj,e2⟩:=vM.mp hv
      exact c' j v (by simpa using hj) (by rw[<- e2];simp)
     ·refine mv.heap b o ?_ (kp b o e)
      rw[hs2];simp only[xn,vN,or_false,not_or]
      exact⟨xr hb,xr (uq hb)⟩
   ·cases r₂ with
    | error e=>exact hr₂
    | ok fl₂=>
     cases fl₂ with
     | ret r=>
      obtain⟨rfl,h',tk,es,rfl,i1,i2,i3,i4,i5⟩:=hr₂
      repeat (any_goals (first|assumption|wp_step))
      exact h _ _ _ i1 i2 i3 i4 i5
     | _=>exact hr₂.elim
  | _=>exact hr.elim
end
end TU
namespace TU
open PySem TB EK TS
open TS (sObj Tab.ft TabP.ft gate adr nObj zAa zAl)
open DS (D)
open Classical
section
variable {prog:Program}{w:World}{A:Around}{E:Value->Shared->Prop}{s:Shared}{dp:Nat}
theorem zDx:isSubtype (.type "tuple") (.type "set")=pure false:=by rw[isSubtype_type];kernel_rfl
theorem zC1:isSubtype (.type "tuple") (.type "frozenset")=pure false:=by rw[isSubtype_type];kernel_rfl
theorem zKg {κ:Addr->D}{l:Addr}{items:Array Value}{Q:Value->Shared->Prop}(hh:A.handled=none) (hl:s.heap.IsTuple l items) (hdp:dp+1<=8) (hu:A.units+20<cLine) (hn:items.size<=1199)
  (hk:∀v∈items.toList,∃a,v=.ref a/\EA s.heap dp (κ a) a)
  (h:∀(h':Heap) (tk:Nat) (es:Array (Int × Value)),IsS dp κ h' s.heap.objs.size es (zAa w)->es.size<=items.size->(∀e∈es.toList,e.2∈items.toList)->(∀v∈items.toList,∃e∈es.toList,kv κ e=κ (adr v))->
   (∀b o,b<s.heap.objs.size->s.heap.get? b=some o->h'.get? b=some o)->Q (.ref s.heap.objs.size) { s with heap:=h',toks:=tk }):
  wpAny (model prog w) A (call (.type "set") [.ref l]) Q E s:=by
 obtain⟨cc,tl,hmro⟩:=vc.mro;have hmade:=vc.made;have hsub:=vc.sub
 refine wpAny_call (codeAny_of_tree (?_))
 refine xf ⟨Code.quiet_builtin _ (by decide +kernel),uZ F.entry_type_call ?_⟩;rw[Around.under_plain (weight_type_call_type "set" [.ref l] []) rfl]
 have h1:=vc.notType;have h2:=vc.canCreate;have hct:=F.typeCall_set_1 (.ref l)
 repeat (any_goals (first|assumption|wp_step))
 refine uh (zAl (.ref l) (E:=E) (Q₁:=fun obj s₁=>obj=.ref s.heap.objs.size/\s₁={ s with heap:=s.heap.push (nObj w) }) ⟨rfl,rfl⟩) fun r s₁ hr=>?_
 cases r with
 | error e=>exact hr
 | ok fl=>
  cases fl with
  | ret obj=>
   obtain⟨rfl,rfl⟩:=hr
   have hS:(s.heap.push (nObj w)).get? s.heap.objs.size=some (nObj w):=xD _ rfl
   have hT:Shared.TypeIs { s with heap:=s.heap.push (nObj w) } (.ref s.heap.objs.size) "set":=⟨_,hS,rfl⟩
   have hli:=vc.init.lookup;have hbi:=vc.init.bind (.ref s.heap.objs.size)
   repeat (any_goals (first|assumption|wp_step))
   refine uh (codeAny_call_builtin (R:=wants (fun r s₂=>r=.none/\∃h' tk es,s₂={ s with heap:=h',toks:=tk }/\IsS dp κ h' s.heap.objs.size es (zAa w)/\es.size<=items.size/\(∀e∈es.toList,e.2∈items.toList)/\(∀v∈items.toList,∃e∈es.toList,kv κ e=κ (adr v)) /\
     (∀b o,b<s.heap.objs.size->s.heap.get? b=some o->h'.get? b=some o)) E) vc.init.plain F.entry_set_init (check_set_init_1 hT ?_)) fun r₂ s₂ hr₂=>?_
   ·have hlt:l<s.heap.objs.size:=by obtain⟨o,ho,_⟩:=hl;exact xl ho
    have hl1:(s.heap.push (nObj w)).IsTuple l items:=hl.push _
    have hTl:Shared.TypeIs { s with heap:=s.heap.push (nObj w) } (.ref l) "tuple":=by obtain⟨o,ho,hc,_⟩:=hl1;exact⟨o,ho,hc⟩
    have q1:=zDx;have q2:=zC1;have q3:(Value.type "tuple" == Value.type "dict")=false:=by decide
    unfold Builtin.«set.__init__» noKeywords Builtin.Frozenset.updateFrom
    generalize hPI:pyIter=PI
    wp_walk
    subst hPI
    refine wpAny_pyIter_tuple hl1 (xc (wpAny_runValue ?_))
    have hs2:(s.heap.push (nObj w)).objs.size=s.heap.objs.size+1:=by rw[vy]
    have hneI:l≠(s.heap.push (nObj w)).objs.size:=by rw[hs2];exact xr (uq hlt)
    have hh3:A.in1.in1.in1.handled=none:=by simp[hh]
    have key:∀(i:Nat) (v:Value),items[i]?=some v->∃a,v=.ref a/\EA s.heap dp (κ a) a:=fun i v hv=>hk v (by obtain⟨z,e⟩:=x8.mp hv;rw[<- e];simp)
    have bad:∀c∈s.heap.objs.size::[(s.heap.push (nObj w)).objs.size],∀o,s.heap.get? c=some o->o.cls≠.type "tuple":=fun c hc o e=>by
     have:=xl e
     rw[hs2]at hc
     rcases xn.mp hc with rfl|hc
     ·exact absurd this (vn _)
     ·rw[vk.mp hc]at this
      exact absurd this (Nat.not_lt.mpr (Nat.le_succ _))
    have kp:∀c o,s.heap.get? c=some o->((s.heap.push (nObj w)).push { cls:=.type "tuple_iterator",data:=.fields #[.ref l,.int 0 0] }).get? c=some o:=fun c o e=>xm _ (xm _ e)
    refine loop (h0:=s.heap) (led:=zAa w) ((Walks.tuple hh3 _ l hneI items).toS) s.heap.objs.size ?nA hdp (by show A.units+1+1+1+(dp+1)<cLine;lia) key bad (fun i v v' q q'=>xP (q.symm.trans q')) hn ?nB (items.size-0) 0 _ #[] (by nofun) (vg _) ⟨⟨_,xD _ rfl,rfl,rfl⟩,hl1.push _⟩
     ⟨0,_,xm _ hS,zDp _,(fun e he=>by cases he),(fun q hq=>by cases hq),uK⟩ (vg _) (fun e he=>by cases he) (fun j v hj=>by nofun) (fun c o _ e=>kp c o e) ?nD
    case nA=>
     rw[hs2];simp;exact vR hlt
    case nB=>
     rintro i s' ⟨⟨o,ho,hc,_⟩,_⟩ c hcm o' ho'
     have:c=(s.heap.push (nObj w)).objs.size:=by simpa using hcm
     subst this
     rw[ho]at ho';cases ho';rw[hc];decide
    case nD=>
     intro s' es' mv i' z' m' c'
     obtain⟨h',g',d',tk',os'⟩:=s'
     have eg:g'=s.gens:=mv.gens
     have ed:d'=s.drawn:=mv.drawn
     have eo:os'=s.os:=mv.os
     subst eg ed eo
     refine xf (show wpAny _ _ (ret Value.none) _ _ _ from xf ⟨rfl,h',tk',es',rfl,i',z',fun e he=>?_,fun v hv=>?_,fun b o hb e=>?_⟩)
     ·obtain⟨j,hj,hp⟩:=m' e he
      obtain⟨z,e2⟩:=x8.mp hp
      rw[<- e2];simp
     ·obtain⟨j,hj,e2⟩:=vM.mp hv
      exact c' j v (by simpa using hj) (by rw[<- e2];simp)
     ·refine mv.heap b o ?_ (kp b o e)
      rw[hs2];simp only[xn,vN,or_false,not_or]
      exact⟨xr hb,xr (uq hb)⟩
   ·cases r₂ with
    | error e=>exact hr₂
    | ok fl₂=>
     cases fl₂ with
     | ret r=>
      obtain⟨rfl,h',tk,es,rfl,i1,i2,i3,i4,i5⟩:=hr₂
      repeat (any_goals (first|assumption|wp_step))
      exact h _ _ _ i1 i2 i3 i4 i5
     | _=>exact hr₂.elim
  | _=>exact hr.elim
end
end TU
namespace DS
open PySem (Str)
noncomputable section
open Classical
noncomputable def setable (l:List D):Prop:=l.length<=1199/\∃n,n+1<=6/\∀x∈l,lv (n+1) x
noncomputable def ssL (S:Store) (d:D):Option D:=match items S d with
 | some l=>if setable l then some (.lst (srt (dedup l)))else none
 | none=>none
noncomputable def ltN (S:Store) (x y:D):Option D:=match x,y with
 | .int a,.int b=>some (.bl (decide (a<b)))
 | .str a,.str b=>some (.bl (decide (a.cps.toList<b.cps.toList)))
 | .tup l,.tup m=>if ∃n,n+1<=6/\lv (n+1) (.tup l)/\lv (n+1) (.tup m)then some (.bl (blt (.tup l) (.tup m)))else none
 | _,_=>none
noncomputable def revS (S:Store) (x:D):Option D:=match x with
 | .tup l=>some (.tup l.reverse)
 | x=>match look S x with
  | some (.lst l)=>some (.lst l.reverse)
  | _=>none
end
end DS
namespace L2
open PySem PySem.Spec PyProof.Rows EK
open DS (D Store Exn Rs SR lv srt)
section
variable {X:Cx}{K:PySem.W.Frag}{E:XE}{J:Js}{S:Store}{H:Hp}{d d1 d2:D}{v:V}{pins:List (Addr × Obj)}{σ:St}{s:Shared}
theorem zHc (I:Inv X pins σ H s):∀(n:Nat) {d:D}{v:V}{u:Value},lv n d->Rep K J H d v->RelV v u->Ek s.heap n d u
 | 0,_,v,u,⟨i,e⟩,r,q=>by
  subst e
  obtain rfl:v=.int i:=r
  obtain⟨t,rfl⟩:=q
  exact⟨i,t,rfl,rfl⟩
 | n+1,_,v,u,⟨l,e,hl⟩,r,q=>by
  subst e
  obtain⟨a,xs,rfl,t,rl⟩:=r
  cases q
  obtain⟨_,its,rv,o,ho,hc,k,hd⟩:=(I.hok _ _ t.1)
  refine⟨l,a,o,_,k,rfl,rfl,ho,hc,hd,?_⟩
  have go:∀(l:List D) (xs:List V) (its:List Value),(∀x∈l,lv n x)->RepL K J H l xs->Vals xs its->A2 (Ek s.heap n) l its:=by
   intro l
   induction l with
   | nil=>intro xs its _ rl rv;obtain rfl:xs=[]:=rl;cases rv;exact .nil
   | cons d l ih=>
    intro xs its hl rl rv
    obtain⟨x,r,rfl,h,rl⟩:=rl
    cases rv with
    | cons q rv=>exact .cons (zHc I n (hl d (.head _)) h q) (ih _ _ (fun y hy=>hl y (.tail _ hy)) rl rv)
  simpa using go l xs its hl rl rv
theorem zIh (I:Inv X pins σ H s) {n:Nat}:∀{l:List D}{xs:List V}{us:List Value},(∀x∈l,lv n x)->RepL K J H l xs->Vals xs us->A2 (Ek s.heap n) l us
 | [],xs,us,_,rl,rv=>by obtain rfl:xs=[]:=rl;cases rv;exact .nil
 | d::l,_,_,hl,⟨x,r,e,h,rl⟩,rv=>by
  subst e
  cases rv with
  | cons q rv=>exact .cons (zHc I n (hl d (.head _)) h q) (zIh I (fun y hy=>hl y (.tail _ hy)) rl rv)
theorem zRb {l:List D}{xs:List V}{us:List Value}(rl:RepL K J H l xs) (rv:Vals xs us):∀u∈us,∃d x,d∈l/\Rep K J H d x/\RelV x u:=by
 induction l generalizing xs us with
 | nil=>obtain rfl:xs=[]:=rl;cases rv;intro u hu;cases hu
 | cons d l ih=>
  obtain⟨x,r,rfl,h,rl⟩:=rl
  cases rv with
  | cons q rv=>
   intro u hu
   rcases xn.mp hu with rfl|hu
   ·exact⟨d,x,.head _,h,q⟩
   ·obtain⟨d',x',m,r1,r2⟩:=ih rl rv u hu
    exact⟨d',x',.tail _ m,r1,r2⟩
end
end L2
namespace L2
open PySem PySem.Spec PyProof.Rows EK TU
open TS (sObj zAa adr ordW zA6 zA8 zGy Tab.ft)
open DS (D Store Exn Rs SR lv srt dedup)
section
variable {X:Cx}{K:PySem.W.Frag}{E:XE}{J:Js}{S:Store}{H:Hp}{d d1 d2:D}{v:V}{pins:List (Addr × Obj)}{σ:St}{s:Shared}
theorem zUm (I:Inv X pins σ H s) {a:Addr}{ys:List V}(hq:SqL X.K H a ys\/SqT X.K H a ys):∃(o:Obj) (its:List Value) (c:Nat) (T:String),s.heap.get? a=some o/\o.cls=.type T/\(T="list"\/T="tuple")/\o.data=.seq its.toArray c/\Vals ys its/\its.length<=sizeLine:=by
 rcases hq with hq|hq
 ·obtain⟨its,rv',pl,hz'⟩:=I.list hq
  obtain⟨o,ho,hc,c,hd⟩:=pl.isList
  exact⟨o,its,c,"list",ho,hc,.inl rfl,hd,rv',by rw[<- Vals.length rv'];exact hz'⟩
 ·obtain⟨its,rv',pl,hz'⟩:=I.tuple hq
  obtain⟨o,ho,hc,c,hd⟩:=pl
  exact⟨o,its,c,"tuple",ho,hc,.inr rfl,hd,rv',by rw[<- Vals.length rv'];exact hz'⟩
structure SGood (K:PySem.W.Frag) (J:Js) (H:Hp) (κ:Addr->D) (es:Array (Int × Value)) (l:List D):Prop where
 mem:∀d,d∈es.toList.map (kv κ) <-> d∈l
 rep:∀e∈es.toList,∃x,Rep K J H (kv κ e) x/\RelV x e.2
theorem zLg {A:Around}{EE:Value->Shared->Prop}{dp:Nat}{l:List D}{a:Addr}{ys:List V}{Q:Value->Shared->Prop}(I:Inv X pins σ H s) (hh:A.handled=none) (hu:A.units+20<cLine) (hq:SqL X.K H a ys\/SqT X.K H a ys) (rl:RepL K J H l ys) (hdp:dp+1<=6) (hl:∀x∈l,lv (dp+1) x) (hz:l.length<=1199)
  (h:∀(h':Heap) (tk:Nat) (es:Array (Int × Value)) (κ:Addr->D),IsS dp κ h' s.heap.objs.size es (zAa X.w)->es.size<=l.length->SGood K J H κ es l->(∀b o,s.heap.get? b=some o->h'.get? b=some o)->Q (.ref s.heap.objs.size) { s with heap:=h',toks:=tk }):
  wpAny (model X.prog X.w) A (call (.type "set") [.ref a]) Q EE s:=by
 obtain⟨o,its,c,T,ho,hc,hT,hd,rv,_⟩:=zUm I hq
 have hk:=zIh I hl rl rv
 have key:∀u∈its,∃b d x,u=.ref b/\d∈l/\kd s.heap (dp+1) (.ref b)=d/\Ek s.heap (dp+1) d (.ref b)/\Rep K J H d x/\RelV x u:=fun u hm=>by
  obtain⟨d,x,md,rx,rq⟩:=zRb rl rv u hm
  have q:=zHc I (dp+1) (hl d md) rx rq
  have q0:=q
  obtain⟨ds,b,ob,items,k,rfl,rfl,_⟩:=q
  exact⟨b,_,x,rfl,md,zG6 q0,q0,rx,rq⟩
 have post:∀(h':Heap) (tk:Nat) (es:Array (Int × Value)),IsS dp (fun b=>kd s.heap (dp+1) (.ref b)) h' s.heap.objs.size es (zAa X.w)->es.size<=its.toArray.size->(∀e∈es.toList,e.2∈its.toArray.toList)->(∀v∈its.toArray.toList,∃e∈es.toList,kv (fun b=>kd s.heap (dp+1) (.ref b)) e=(fun b=>kd s.heap (dp+1) (.ref b)) (adr v))->
   (∀b o,b<s.heap.objs.size->s.heap.get? b=some o->h'.get? b=some o)->Q (.ref s.heap.objs.size) { s with heap:=h',toks:=tk }:=fun h' tk es i1 z1 m1 cv k1=>by
  refine h h' tk es _ i1 (by rw[hk.length];simpa using z1) ⟨fun d=>?_,fun e he=>?_⟩ fun b o e=>k1 b o (xl e) e
  ·constructor
   ·intro hm
    obtain⟨e,he,rfl⟩:=xA.mp hm
    obtain⟨b,d,x,eb,md,ek,_,_,_⟩:=key e.2 (by simpa using m1 e he)
    unfold kv
    rw[eb]
    show kd s.heap (dp+1) (.ref b)∈l
    rw[ek];exact md
   ·intro hm
    obtain⟨u,hu',q⟩:=hk.mem_l d hm
    obtain⟨e,he,ek⟩:=cv u (by simpa using hu')
    refine xA.mpr ⟨e,he,ek.trans ?_⟩
    have q0:=q
    obtain⟨ds,b,ob,items,k,rfl,rfl,_⟩:=q
    exact zG6 q0
  ·obtain⟨b,d,x,eb,md,ek,_,rx,rq⟩:=key e.2 (by simpa using m1 e he)
   refine⟨x,?_,rq⟩
   unfold kv
   rw[eb]
   show Rep K J H (kd s.heap (dp+1) (.ref b)) x
   rw[ek];exact rx
 have kk:∀v∈its.toArray.toList,∃b,v=.ref b/\EA s.heap dp (kd s.heap (dp+1) (.ref b)) b:=fun v hv=>by
  obtain⟨b,d,x,eb,md,ek,q,_,_⟩:=key v (by simpa using hv)
  exact⟨b,eb,by rw[ek];exact q⟩
 have sz:its.toArray.size<=1199:=by simpa[<- hk.length]using hz
 rcases hT with rfl|rfl
 ·exact zNs hh ⟨o,ho,hc,c,hd⟩ (by nofun) hu sz kk post
 ·exact zKg hh ⟨o,ho,hc,c,hd⟩ (by nofun) hu sz kk post
theorem zTz {prog:Program}{w:World}{A:Around}{EE:Value->Shared->Prop}{dp:Nat}{κ:Addr->D}{T:Addr}{es:Array (Int × Value)}{R:List Value->Shared->Prop}(hh:A.handled=none) (hS:IsW dp κ s.heap T es (zAa w)) (hz:es.size<=sizeLine)
  (h:∀(h':Heap) (tk:Nat) (vs:List Value),(∀b o,s.heap.get? b=some o->h'.get? b=some o)->vs.Perm (es.toList.map (·.2))->A2 (Ek h' (dp+1)) (vs.map fun v=>κ (adr v)) vs->R vs { s with heap:=h',toks:=tk }):wpAny (model prog w) A (collect (.ref T)) R EE s:=by
 obtain⟨ep,t,ho,Tb,he,nd⟩:=hS
 refine PySem.W.kdu_collect (zGy Tb) hh ho hz fun h' tk acc kp it=>?_
 have ea:acc.toList=((ordW w T ep es).map (·.2)).toList:=by
  refine List.ext_getElem? fun i=>?_
  rcases vj i acc.size with z|z
  ·have e1:=it.2 i acc[i] (xT z)
   rw[uo,xT z,uo,e1]
  ·rw[vU (by simpa using z),vU (by simp[zA8];rw[<- it.1];exact z)]
 have pm:acc.toList.Perm (es.toList.map (·.2)):=by rw[ea,Array.toList_map];exact(zA6 w T ep es).map _
 refine h h' tk acc.toList kp pm ?_
 have al:∀v∈acc.toList,∃b,v=.ref b/\EA s.heap dp (κ b) b:=fun v hv=>by
  obtain⟨e,hm,rfl⟩:=xA.mp (pm.mem_iff.mp hv)
  obtain⟨b,e1,q,_⟩:=he e hm
  exact⟨b,e1,q⟩
 generalize acc.toList=vs at al
 clear pm ea
 induction vs with
 | nil=>exact .nil
 | cons v vs ih=>
  obtain⟨b,rfl,q⟩:=al v (.head _)
  exact .cons (Ek.kept q fun b o e _=>kp b o e) (ih fun u hu=>al u (.tail _ hu))
theorem zK8 {A:Around}{EE:Value->Shared->Prop}{dp:Nat}{κ:Addr->D}{T:Addr}{es:Array (Int × Value)}{l:List D}{Q:VK}{s1:Shared}(I:Inv X pins σ H s1) (hh:A.handled=none) (hu:A.units+20<cLine) (hS:IsW dp κ s.heap T es (zAa X.w)) (hdp:dp+1<=6)
  (k1:∀b o,s1.heap.get? b=some o->s.heap.get? b=some o) (e1:s={ s1 with heap:=s.heap,toks:=s.toks }) (hT:s1.heap.objs.size<=T) (hz:es.size<=2 ^ 21) (g:SGood K J H κ es l) (hl:∀x∈l,lv (dp+1) x)
  (h:∀(L:Addr) (zs:List V),H L=none->RepL K J H (srt (dedup l)) zs->Q (.ref L) (upd H L (.lst zs))):wpAny (model X.prog X.w) A (call (.builtin "sorted") [.ref T]) (EP X pins σ Q) EE s:=by
 have nd:=hS
 obtain⟨_,_,hoT,_,he,nd⟩:=nd
 refine EK.zGz (G:=fun ds vs=>vs.Perm (es.toList.map (·.2))/\ds=vs.map fun v=>κ (adr v)) (by nofun) (fun R hR=>zTz hh hS (by rw[xZ];lia) fun h' tk vs kp pm a2=>hR h' tk _ vs (xl (kp T _ hoT)) kp a2 (by rw[pm.length_eq];simpa using hz) ⟨pm,rfl⟩) fun ds vs vs' c tk h' L hg hz2 pm a2 hL kp hD=>?_
 obtain⟨pv,rfl⟩:=hg
 have pd:(vs.map fun v=>κ (adr v)).Perm (dedup l):=by
  have p1:(vs.map fun v=>κ (adr v)).Perm (es.toList.map (kv κ)):=by
   have:=pv.map fun v=>κ (adr v)
   rw[ue]at this
   exact this
  refine p1.trans (DS.zSj nd DS.zDb fun x=>?_)
  rw[g.mem,DS.mem_dedup]
 have es1:srt (vs.map fun v=>κ (adr v))=srt (dedup l):=by
  have lv1:∀y∈vs.map (fun v=>κ (adr v)),lv (dp+1) y:=fun y hy=>hl y (DS.mem_dedup.mp (pd.mem_iff.mp hy))
  exact DS.zK0 (fun y hy=>lv1 y ((DS.zBv _).mem_iff.mp hy)) ((DS.zBv _).trans pd) (DS.zHx lv1)
 rw[es1]at a2
 have src:∀u∈vs',∃d x,Rep K J H d x/\RelV x u/\Ek h' (dp+1) d u:=fun u hm=>by
  obtain⟨e,he',rfl⟩:=xA.mp (pv.mem_iff.mp (pm.mem_iff.mp hm))
  obtain⟨x,rx,rq⟩:=g.rep e he'
  obtain⟨b,eb,q,_⟩:=he e he'
  refine⟨kv κ e,x,rx,rq,?_⟩
  unfold kv
  rw[eb]
  exact q.kept fun b o e _=>kp b o e
 have bk:∀{m:List D}{vs:List Value},A2 (Ek h' (dp+1)) m vs->(∀u∈vs,u∈vs')->∃ys,RepL K J H m ys/\Vals ys vs:=by
  intro m vs a2
  induction a2 with
  | nil=>exact fun _=>⟨[],rfl,.nil⟩
  | @cons d u m vs q _ ih=>
   intro hm
   obtain⟨ys,r1,r2⟩:=ih fun u hu=>hm u (.tail _ hu)
   obtain⟨d',x,rx,rq,q'⟩:=src u (hm u (.head _))
   have e:=q'.inj q
   subst e
   exact⟨x::ys,⟨x,ys,rfl,rx,r1⟩,.cons rq r2⟩
 obtain⟨zs,r1,r2⟩:=bk a2 fun u hu=>hu
 have len:zs.length<=sizeLine:=by rw[Vals.length r2,pm.length_eq,pv.length_eq,xZ];simp;lia
 have hL':=xp hT (Nat.le_of_succ_le hL)
 have I':=I.laid (t':=tk) (fun b o e=>kp b o (k1 b o e)) hL' (show ObjOk X.prog X.w _ h' _ (.lst zs)from⟨len,_,c,r2,hD⟩)
 rw[e1]
 exact⟨.ref L,_,I',rfl,h L zs (I.hok.fresh hL') r1⟩
end
section
variable {X:Cx}{K:PySem.W.Frag}{E:XE}
theorem zYx {e:Expr}{m:DS.EM}{p p2 pos pos2:Pos}(hc:X.calm=true) (hu:X.A.units+64<cLine) (he:DE X K E e m) (hgs:Gl X "sorted") (hms:X.mg "sorted"=none) (hgt:Gl X "set") (hmt:X.mg "set"=none) (h:nst e=true:=by rfl) (hK:X.K=K:=by rfl):
  DF X K E (.Call (.Name "sorted" p) [.Call (.Name "set" p2) [e] [] pos2] [] pos) (DS.eUn DS.ssL m):=by
 subst hK
 refine⟨⟨fun pins s σ H Q I hq1=>?_⟩⟩
 obtain⟨env,S,J,ha,hE,q⟩:=hq1
 have hs:starEach [e] X.env=[(false,eval e X.env)]:=zAm h
 have hs2:starEach [Expr.Call (.Name "set" p2) [e] [] pos2] X.env=[(false,eval (.Call (.Name "set" p2) [e] [] pos2) X.env)]:=rfl
 refine vG (zBm I hgs hms PyProof.Rows.boot_sorted (ym ?_ hs2 rfl))
 rw[hs2]
 refine(v8 ?_)
 refine vG (zBm I hgt hmt PyProof.Rows.boot_set (v3 ?_ hs rfl))
 rw[hs]
 refine(v8 ?_)
 refine thn (he.h.h pins s σ H (fun x H1=>∃J1 S1 d0 d,AbS X.K J1 S1 H1/\Rep X.K J1 H1 d0 x/\DS.ssL S1 d0=some d/\∀p o,H1 p=none->ObD X.K J1 H1 d o->Q (.ref p) (upd H1 p o)) I ⟨env,S,J,ha,hE,q.bind.imp fun d0 S1 J1 H1 _ a1 g1 q1 x rx=>?_⟩) fun v s1 hq1=>?_
 ·obtain⟨c,ec,k⟩:=q1.lift
  exact⟨J1,S1,d0,c,a1,rx,ec,k J1 H1 a1 .refl⟩
 ·obtain⟨x,H1,I1,r1,J1,S1,d0,d,a1,rx,ed,k⟩:=hq1
  refine v7 ?_
  unfold DS.ssL at ed
  cases e1:DS.items S1 d0 with
  | none=>rw[e1]at ed;cases ed
  | some l=>
   rw[e1]at ed
   dsimp only at ed
   split at ed
   ·rename_i hs
    cases ed
    obtain⟨hz,n,hn,hl⟩:=hs
    obtain⟨a,ys,rfl,hq,q⟩:=zCg a1 rx e1
    cases r1
    refine zLg I1 (I.ok.hd hc) (by nofun) hq q hn hl (by nofun) fun h1 tk1 es κ i1 z1 g1 k1=>v7 ?_
    refine zK8 I1 (I.ok.hd hc) (by nofun) i1.wk hn k1 rfl (xi _) (by nofun) g1 hl fun L zs hL r=>k L _ hL ⟨zs,rfl,r⟩
   ·cases ed
end
end L2
namespace L2
open PySem PySem.Spec PyProof.Rows EK
open DS (D Store Exn Rs SR lv srt dedup)
section
variable {X:Cx}{K:PySem.W.Frag}{E:XE}{J:Js}{S:Store}{H:Hp}{d d1 d2:D}{v:V}{pins:List (Addr × Obj)}{σ:St}{s:Shared}
theorem zSe (hu:X.A.units+64<cLine):OpR X (compareOp .Lt) (r2Of K DS.ltN):=by
 intro pins s σ H x y a b Q I rx ry hq29
 obtain⟨J,S,d1,d2,d,ha,r1,r2,e,k⟩:=hq29
 unfold DS.ltN at e
 split at e
 ·cases e
  obtain rfl:=r1
  obtain rfl:=r2
  exact zYj pins s σ H _ _ a b Q I rx ry ⟨_,_,rfl,rfl,k _ H ha .refl rfl⟩
 ·cases e
  obtain rfl:=r1
  obtain rfl:=r2
  exact zL9 pins s σ H _ _ a b Q I rx ry ⟨_,_,rfl,rfl,k _ H ha .refl rfl⟩
 ·split at e
  ·rename_i hs
   cases e
   obtain⟨n,hn,h1,h2⟩:=hs
   have q1:=zHc I (n+1) h1 r1 rx
   have q2:=zHc I (n+1) h2 r2 ry
   exact(zPb (n+1) q1 q2 (by nofun) ⟨.bl (DS.blt (.tup _) (.tup _)),H,I,rfl,k _ H ha .refl rfl⟩:wpAny (model X.prog X.w) X.A (richCompare .Lt a b) (EP X pins σ Q) X.xe s)
  ·cases e
 ·cases e
theorem zE4 (xs:List Value) (i:Nat) (hi:i<xs.length):xs[((xs.length:Int)-1+-1*(i:Int)).toNat]?=xs.reverse[i]?:=by
 rw[List.getElem?_reverse hi]
 congr 1
 lia
theorem zE5 (xs:List Value) (f:Nat->Option Value) (hf:∀i,i<xs.length->f i=xs[i]?):(List.range xs.length).filterMap f=xs:=by
 have:∀n,n<=xs.length->(List.range n).filterMap f=xs.take n:=by
  intro n
  induction n with
  | zero=>intro _;rfl
  | succ n ih=>
   intro hn
   rw[List.range_succ,List.filterMap_append,ih (by nofun),List.take_add_one]
   rw[xu (by nofun)]
   have e:f n=some (xs[n]'(by nofun)):=by rw[hf n (by nofun),xu (by nofun)]
   simp[e]
 rw[this _ (xi _),List.take_length]
theorem zOf (xs:List Value):slicePick xs.toArray none none (some (-1))=xs.reverse.toArray:=by
 unfold slicePick
 have e1:(sliceBounds none none (some (-1)) xs.toArray.size).1=(xs.length:Int)-1:=by simp[sliceBounds]
 have e2:(sliceBounds none none (some (-1)) xs.toArray.size).2.1=-1:=by simp[sliceBounds]
 have e3:(sliceBounds none none (some (-1)) xs.toArray.size).2.2=-1:=by simp[sliceBounds]
 rw[e1,e2,e3]
 unfold sliceRange
 have ec:(if(-1:Int) > 0 then(if(xs.length:Int)-1 < -1 then(-1-((xs.length:Int)-1)+-1-1) / -1 else 0)else(if(xs.length:Int)-1 > -1 then((xs.length:Int)-1 - -1 - -1-1) / (- -1)else 0)).toNat=xs.reverse.length:=by
  rw[uU,xh (by nofun),show(- -1:Int)=1 by decide,Int.ediv_one]
  split <;> lia
 dsimp only
 rw[ec,List.filterMap_map]
 congr 1
 refine zE5 _ _ fun i hi=>?_
 show xs.toArray[((xs.length:Int)-1+-1*(i:Int)).toNat]?=_
 rw[List.getElem?_toArray]
 exact zE4 xs i (by simpa using hi)
end
end L2
namespace L2
open PySem PySem.Spec PyProof.Rows EK
open DS (D Store Exn Rs SR lv srt dedup)
section
variable {prog:Program}{w:World}{A:Around}{E:Value->Shared->Prop}{s:Shared}
theorem zHq {sl:Addr}{t:Tok}{n:Nat}{Q:Int × Int × Nat->Shared->Prop}(hs:s.heap.IsSliceOf sl .none .none (.int (-1) t)) (h:Q ((n:Int)-1,-1,n) s):wpAny (model prog w) A (Builtin.Slice.sliceApplied (.ref sl) (pure (n:Int))) Q E s:=by
 obtain⟨os,hos,hcs,hds⟩:=id hs
 unfold Builtin.Slice.sliceApplied Builtin.Slice.sliceFields
 refine xc (xc (xR hos hds rfl (xc (xR hos hds rfl (xc (xR hos hds rfl (xf (xc (HT.slicePart_ (.int (-1) t) ?_)))))))))
 refine(?_)
 rw[xh (by decide)]
 refine xc (HT.slicePart_ .none (xc (HT.slicePart_ .none (xc (xf ?_)))))
 have e:Builtin.Slice.sliceAdjust none none (-1) (n:Int)=((n:Int)-1,-1):=by simp[Builtin.Slice.sliceAdjust]
 have e2:Builtin.Slice.slicePlaces ((n:Int)-1) (-1) (-1)=n:=by
  unfold Builtin.Slice.slicePlaces
  rw[xh (by decide),show(- -1:Int)=1 by decide,Int.ediv_one]
  split <;> lia
 refine(show wpAny _ _ (match Builtin.Slice.sliceAdjust none none (-1) (n:Int)with|(lo,hi)=>pure (lo,(-1:Int),Builtin.Slice.slicePlaces lo hi (-1))) _ _ s from ?_)
 rw[e]
 dsimp only
 rw[e2]
 exact xf h
theorem zCr {t sl:Addr}{its:List Value}{tk:Tok}{Q:Value->Shared->Prop}(ht:IsTup s.heap t its.toArray) (hs:s.heap.IsSliceOf sl .none .none (.int (-1) tk)) (h:Q (.ref s.heap.objs.size) { s with heap:=s.heap.push { cls:=.type "tuple",data:=.seq its.reverse.toArray } }) (hz:its.length<=sizeLine):
  wpAny (model prog w) A (getItem (.ref t) (.ref sl)) Q E s:=by
 have htake:sizeOk (.seq its.reverse.toArray):=by show its.reverse.toArray.size<=sizeLine;simpa using hz
 obtain⟨os,hos,hcs,hds⟩:=id hs
 have hTs:s.TypeIs (.ref sl) "slice":=⟨os,hos,hcs⟩
 unfold getItem
 try with_reducible refine xC ?_
 first|refine xc (xf ?_)|skip
 refine xc (wpAny_sequenceKey ht.typeIs (by decide) (xc (vI ht.typeIs vJ (xS vJ ht.typeIs entry_tuple_getitem ?_ (args_tuple_getitem _ _)))))
 refine(show wpAny _ _ (Builtin.Tuple.tupleItemsOf (.ref t) >>= _) _ _ s from xc (tupleItemsOf_ ht (xc (uk hTs ?_))))
 rw[xg (by decide)]
 refine xc (zHq hs ?_)
 refine(show wpAny _ _ (if(((its.toArray.size:Int)-1 == 0 && (-1:Int) == 1) && its.toArray.size == its.toArray.size)=true then _ else _) _ _ s from ?_)
 rw[xh (by simp)]
 have e:((List.range its.toArray.size).filterMap fun(k:Nat)=>its.toArray[(((its.toArray.size:Nat):Int)-1+(k:Int)*(-1)).toNat]?)=its.reverse:=by
  have hl:its.toArray.size=its.reverse.length:=by simp
  rw[hl]
  refine zE5 _ _ fun i hi=>?_
  rw[List.getElem?_toArray,<- zE4 its i (by simpa using hi)]
  congr 2
  simp
 rw[e]
 first
  | exact xc (ve (xf ⟨_,rfl,xf h⟩) htake)
  | exact xc (ve (xc (xf (xf ⟨_,rfl,xf h⟩))) htake)
  | exact xc (xc (ve (xf (xf ⟨_,rfl,xf h⟩)) htake))
  | exact xc (xc (ve (xf ⟨_,rfl,xf h⟩) htake))
end
section
variable {X:Cx}{K:PySem.W.Frag}{E:XE}{e:Expr}{m:DS.EM}{p2 pos:Pos}
theorem zXj {stp:Expr}{m2:DS.EM}(he:DE X K E e m) (h2:DE X K E stp m2) (e2:∀env S,m2 env S=.ok (.int (-1)) S:=by intros;rfl) (hK:X.K=K:=by rfl):DE X K E (.Subscript e (.Slice none none (some stp) p2) pos) (DS.eUn DS.revS m):=by
 subst hK
 refine⟨⟨fun pins s σ H Q I hq1=>?_⟩⟩
 obtain⟨env,S,J,ha,hE,q⟩:=hq1
 refine Subscript_ (thn (he.h.h pins s σ H (fun x H1=>∃J1 S1 d0 d,AbS X.K J1 S1 H1/\RepE X.K J1 H1 env σ/\Rep X.K J1 H1 d0 x/\DS.revS S1 d0=some d/\∀v H',AbS X.K J1 S1 H'->Grow J1 H1 J1 H'->Rep X.K J1 H' d v->Q v H') I ⟨env,S,J,ha,hE,q.bind.imp fun d0 S1 J1 H1 _ a1 g1 q1 x rx=>?_⟩) fun v s1 hq1=>?_)
 ·obtain⟨c,ec,k⟩:=q1.lift
  exact⟨J1,S1,d0,c,a1,hE.grow g1,rx,ec,fun v H' h1 h2 h3=>k J1 H' h1 h2 v h3⟩
 ·obtain⟨x,H1,I1,r1,J1,S1,d0,d,a1,hE1,rx,ed,k⟩:=hq1
  have n1:∀(s:Shared) (R:Value->Shared->Prop),R .none s->wpAny (model X.prog X.w) X.A (evalPart none X.env) R X.xe s:=fun s R h=>by rw[evalPart_none];exact xf h
  refine wpAny_Slice (n1 _ _ (n1 _ _ ?_))
  rw[evalPart_some]
  refine thn (h2.h.h pins s1 σ H1 (fun y H2=>y=.int (-1)/\H2=H2/\∃g:Grow J1 H1 J1 H2,AbS X.K J1 S1 H2) I1 ⟨env,S1,J1,a1,hE1,?_⟩) fun u s2 hq1=>?_
  ·rw[e2]
   exact fun J' H' h1 g v rv=>⟨rv,rfl,by
    have ej:J'=J1:=by
     have:=g.take a1
     rw[<- h1.len]at this
     simpa using this
    subst ej
    exact⟨g,h1⟩⟩
  obtain⟨y,H2,I2,r2,ey,_,g2,a2⟩:=hq1
  subst ey
  obtain⟨t,rfl⟩:=r2
  have I4:Inv X pins σ H2 { s2 with heap:=s2.heap.push { cls:=.type "slice",data:=.fields #[.none,.none,.int (-1) t] } }:=I2.kept fun b ob q=>xm _ q
  have hs:(s2.heap.push { cls:=.type "slice",data:=.fields #[.none,.none,.int (-1) t] }).IsSliceOf s2.heap.objs.size .none .none (.int (-1) t):=Heap.IsSliceOf.new ..
  have rx2:=Rep.grow g2 _ _ rx
  have k2:∀v H',AbS X.K J1 S1 H'->Grow J1 H2 J1 H'->Rep X.K J1 H' d v->Q v H':=fun v H' h1 h2 h3=>k v H' h1 (g2.trans h2) h3
  refine(?_)
  unfold DS.revS at ed
  split at ed
  ·rename_i l
   cases ed
   obtain⟨a,xs,rfl,ta,rl⟩:=rx2
   cases r1
   obtain⟨its,r,ht,hz⟩:=I4.tuple ta.sq
   refine tail_any ht.typeIs vJ.lookup (zCr ht hs ?_ (by rw[<- Vals.length r];exact hz)) (by with_unfolding_all rfl)
   refine⟨.ref _,_,I4.laid (o:=.tup xs.reverse) (fun b ob q=>xm _ q) (xi _) ⟨by rw[uU];exact hz,_,r.reverse,IsTup.new _ _⟩,rfl,k2 _ _ (a2.push (I4.hok.fresh (xi _))) (.push (I4.hok.fresh (xi _))) ⟨_,_,rfl,⟨zAd,a2.out (I4.hok.fresh (xi _))⟩,(RepL.grow (.push (I4.hok.fresh (xi _))) _ _ rl).reverse⟩⟩
  ·split at ed
   ·rename_i l el
    cases ed
    obtain⟨a,xs,rfl,hq,rl⟩:=zLl a2 rx2 el
    cases r1
    obtain⟨its,r,ht,hz⟩:=I4.list hq
    refine tail_any ht.isList.typeIs slot_list_getitem.lookup (wpAny_getItem_list_slice ht.isList hs .none .none (.int (-1) t) (by simp) ?_ (by rw[xq,<- Vals.length r];exact hz)) (by with_unfolding_all rfl)
    rw[zOf]
    refine⟨.ref _,_,I4.laid (o:=.lst xs.reverse) (fun b ob q=>xm _ q) (xi _) ⟨by rw[uU];exact hz,_,0,r.reverse,xD _ rfl⟩,rfl,k2 _ _ (a2.push (I4.hok.fresh (xi _))) (.push (I4.hok.fresh (xi _))) ⟨_,_,rfl,⟨zAd,a2.out (I4.hok.fresh (xi _))⟩,(RepL.grow (.push (I4.hok.fresh (xi _))) _ _ rl).reverse⟩⟩
   ·cases ed
end
end L2
namespace DS
noncomputable section
open Classical
noncomputable def trk (S:Store):D->Option (Bool × List D)
 | .tup l=>some (true,l)
 | .lst l=>some (false,l)
 | .ref n=>match S[n]? with
  | some (.lst l)=>some (false,l)
  | _=>none
 | _=>none
noncomputable def zipW (b1 b2:Bool) (S:Store):List D->Option Walk
 | [a,b]=>match trk S a,trk S b with
  | some (c1,l),some (c2,m)=>if c1=b1/\c2=b2 then some ⟨(l.zip m).map fun p=>.tup [p.1,p.2],gdOf S a++gdOf S b⟩else none
  | _,_=>none
 | _=>none
noncomputable def iZp (b1 b2:Bool) (a:AM):IM:=fun env S=>(a env S).bind fun xs S1=>lift (zipW b1 b2 S1 xs) S1
end
end DS
namespace L2
open PySem PySem.Spec PyProof.Rows
open DS (D Store Exn Rs SR)
section
variable {X:Cx}{K:PySem.W.Frag}{E:XE}{J:Js}{S:Store}{H:Hp}{d d1 d2:D}{v:V}
theorem zFx {l:List D}{c:Bool}(ha:AbS K J S H) (r:Rep K J H d v) (e:DS.trk S d=some (c,l)):∃a,v=.ref a/\∀J' H' S' gd,Grow J H J' H'->AbS K J' S' H'->(∀p∈DS.gdOf S d,p∈gd)->DS.gOk S' gd->∃ys,H' a=some (hoK c ys)/\RepL K J' H' l ys:=by
 cases d with
 | tup l=>cases e;obtain⟨a,xs,rfl,t,rl⟩:=r;exact⟨a,rfl,fun J' H' S' gd g _ _ _=>⟨xs,(t.grow g).1,RepL.grow g _ _ rl⟩⟩
 | lst l=>cases e;obtain⟨a,xs,rfl,t,rl⟩:=r;exact⟨a,rfl,fun J' H' S' gd g _ _ _=>⟨xs,(t.grow g).1,RepL.grow g _ _ rl⟩⟩
 | ref n=>
  obtain⟨a,ea,rfl⟩:=r
  obtain⟨c',ec,o,eo,rc⟩:=ha.at ea
  have e:(match S[n]? with|some (.lst l)=>some (false,l)|_=>none)=some (c,l):=e
  rw[ec]at e
  cases c' with
  | lst l'=>
   cases e
   refine⟨a,rfl,fun J' H' S' gd g ha' sub ok=>?_⟩
   have e':=ok (n,.lst l) (sub _ (by simp[DS.gdOf,ec]))
   obtain⟨o',eo',rc'⟩:=ha'.ob n a _ (g.pre n a ea) e'
   obtain⟨ys,rfl,rl'⟩:=rc'
   exact⟨ys,eo',rl'⟩
  | _=>cases e
 | _=>cases e
theorem zWf {a b:Addr}{b1 b2:Bool}{l m:List D}{gd:List (Nat × D)}(h1:∀J' H' S',Grow J H J' H'->AbS K J' S' H'->DS.gOk S' gd->∃ys,H' a=some (hoK b1 ys)/\RepL K J' H' l ys)
  (h2:∀J' H' S',Grow J H J' H'->AbS K J' S' H'->DS.gOk S' gd->∃ys,H' b=some (hoK b2 ys)/\RepL K J' H' m ys):ItOk K J H ⟨(l.zip m).map fun p=>.tup [p.1,p.2],gd⟩ (Itk b1 b2 a b) where
 go:=fun i H' J' S' ha g gd hi=>by
  obtain⟨xs,q1,r1⟩:=h1 J' H' S' g ha gd
  obtain⟨ys,q2,r2⟩:=h2 J' H' S' g ha gd
  have hi':i<l.length/\i<m.length:=by rw[xF,List.length_zip]at hi;lia
  exact⟨xs,ys,xs[i]'(by rw[<- r1.length];exact hi'.1),ys[i]'(by rw[<- r2.length];exact hi'.2),q1,q2,xu _,xu _⟩
 yld:=fun i H' J' S' x H'' ha g gd yl d ed=>by
  obtain⟨T,xs',ys',x1,y1,rfl,hT,e1,e2,g1,g2,rfl⟩:=yl
  obtain⟨xs,q1,r1⟩:=h1 J' H' S' g ha gd
  obtain⟨ys,q2,r2⟩:=h2 J' H' S' g ha gd
  have ex:=zM2 (xP (q1.symm.trans e1))
  have ey:=zM2 (xP (q2.symm.trans e2))
  subst ex ey
  obtain⟨dx,f1,p1⟩:=r1.get' g1
  obtain⟨dy,f2,p2⟩:=r2.get' g2
  rw[vx,show(l.zip m)[i]?=some (dx,dy)from List.getElem?_zip_eq_some.mpr ⟨f1,f2⟩]at ed
  cases ed
  refine⟨ha.push hT,.push hT,T,_,rfl,⟨zAd,ha.out hT⟩,x1,[y1],rfl,Rep.grow (.push hT) _ _ p1,y1,[],rfl,Rep.grow (.push hT) _ _ p2,rfl⟩
 stop:=fun i H' J' S' ha g gd hi=>by
  obtain⟨xs,q1,r1⟩:=h1 J' H' S' g ha gd
  obtain⟨ys,q2,r2⟩:=h2 J' H' S' g ha gd
  refine⟨xs,ys,q1,q2,?_⟩
  rw[xF,List.length_zip]at hi
  rw[<- r1.length,<- r2.length]
  lia
theorem zXa (b1 b2:Bool) {a b:Expr}{es:List Expr}{k:Nat}{tpos p pos:Pos}{am:DS.AM}(hg:Gl X "zip") (hm:X.mg "zip"=none) (ha:DA X K E [a,b] am) (h1:nst a=true:=by rfl) (h2:nst b=true:=by rfl):DI X K E (.Tuple es k tpos) (.Call (.Name "zip" p) [a,b] [] pos) (DS.iZp b1 b2 am):=
 ⟨(qzk b1 b2 hg hm ha.h (by rw[zAm h1,zAm h2];rfl) (by rw[zAm h2];rfl)).imp fun σ H R ⟨env,S,J,h,hE,q⟩=>⟨env,S,J,h,hE,q.bind.imp fun ds S1 J1 H1 e1 a1 g1 q1 xs rx=>by
  obtain⟨w,ew,k⟩:=q1.lift
  have hl:=ha.len _ _ _ _ e1
  match ds,hl with
  | [d,d'],_=>
   obtain⟨x,y,rfl,r,r'⟩:=zGv rx
   unfold DS.zipW at ew
   simp only at ew
   cases t1:DS.trk S1 d with
   | none=>rw[t1]at ew;cases ew
   | some p1=>
    cases t2:DS.trk S1 d' with
    | none=>rw[t1,t2]at ew;cases ew
    | some p2=>
     obtain⟨c1,l⟩:=p1
     obtain⟨c2,m⟩:=p2
     rw[t1,t2]at ew
     simp only at ew
     split at ew
     ·rename_i hc
      obtain⟨rfl,rfl⟩:=hc
      cases ew
      obtain⟨a',rfl,s1⟩:=zFx a1 r t1
      obtain⟨b',rfl,s2⟩:=zFx a1 r' t2
      have z1:=fun J' H' S' g ab ok=>s1 J' H' S' (DS.gdOf S1 d++DS.gdOf S1 d') g ab (fun p hp=>vC _ hp) ok
      have z2:=fun J' H' S' g ab ok=>s2 J' H' S' (DS.gdOf S1 d++DS.gdOf S1 d') g ab (fun p hp=>xI _ hp) ok
      have ok0:DS.gOk S1 (DS.gdOf S1 d++DS.gdOf S1 d'):=fun p hp=>by
       have key:∀e,∀p∈DS.gdOf S1 e,S1[p.1]?=some p.2:=fun e p hp=>by
        cases e with
        | ref n=>
         have hp:p∈(match S1[n]? with|some d=>[(n,d)]|none=>[]):=hp
         cases en:S1[n]? with
         | none=>rw[en]at hp;cases hp
         | some c=>rw[en]at hp;rw[vk.mp hp];exact en
        | _=>cases hp
       rcases xV.mp hp with hp|hp
       ·exact key _ p hp
       ·exact key _ p hp
      obtain⟨xs,f1,_⟩:=z1 J1 H1 S1 .refl a1 ok0
      obtain⟨ys,f2,_⟩:=z2 J1 H1 S1 .refl a1 ok0
      exact⟨a',b',rfl,⟨xs,f1⟩,⟨ys,f2⟩,k J1 H1 a1 .refl _ (zWf z1 z2)⟩
     ·cases ew⟩⟩
end
end L2
namespace L2
open PySem PySem.Spec PyProof.Rows
open DS (D Store Exn Rs SR)
noncomputable def locB (o:Option NameKind):Bool:=o == some .local || o == some .cell
noncomputable def visB (o:Option NameKind):Bool:=locB o || o == some .free
theorem zI3 {o:Option NameKind}(h:locB o=true):o=some .local\/o=some .cell:=by simpa[locB]using h
theorem zNg {o:Option NameKind}(h:visB o=true):o=some .local\/o=some .cell\/o=some .free:=by simpa[visB,locB,or_assoc]using h
noncomputable def ndB:List Str->Bool
 | []=>true
 | x::r=>!(r.contains x) && ndB r
theorem zF3:∀{l:List Str},ndB l=true->l.Nodup
 | [],_=>uK
 | x::r,h=>by
  simp only[ndB,xt,Bool.not_eq_true',List.contains_eq_mem,decide_eq_false_iff_not]at h
  exact x4.mpr ⟨h.1,zF3 h.2⟩
noncomputable def varB (X:Cx) (i:Nat) (x:Str):Bool:=X.N[i]? == some x && (visB (X.env.scope.names.lookup x) && (!(x == ("__debug__":Str)) && !(x == ("__classdict__":Str))))
noncomputable def setB (X:Cx) (j:Nat) (x:Str):Bool:=ndB X.N && (X.N[j]? == some x && (locB (X.env.scope.names.lookup x) && (X.fn x || X.env.scope.names.lookup x == some .local)))
noncomputable def tgN:Expr->List Str
 | .Name x _=>[x]
 | .Tuple ts _ _=>ts.flatMap fun
  | .Name x _=>[x]
  | .Tuple us _ _=>us.flatMap fun
   | .Name x _=>[x]
   | _=>[]
  | _=>[]
 | _=>[]
noncomputable def freN (N:List Str) (ix:List Nat):List Str:=ix.map fun i=>N.getD i ""
noncomputable def cmpB (X:Cx) (tg iter:Expr) (n:Nat) (ix:List Nat) (scope:Scope):Bool:=X.calm && (nse iter && ((tgN tg).length == n && zMw X.env.scope X.N (tgN tg) (freN X.N ix) ix scope))
section
variable {X:Cx}{K:PySem.W.Frag}{E:XE}{e a b c:Expr}{es:List Expr}{p pos:Pos}{m ma mb mc:DS.EM}{mt mu:DS.TM}
theorem zWz {i:Nat}{x:Str}(h:varB X i x=true):DE X K E (.Name x pos) (DS.eVar i):=by
 simp only[varB,xt,Bool.not_eq_true']at h
 exact zXf i (by simpa using h.1) (zNg h.2.1) h.2.2.1 h.2.2.2
theorem zEx {j:Nat}{x:Str}(h:setB X j x=true):X.N.Nodup/\X.N[j]?=some x/\Loc X.env.scope x/\(X.fn x=true\/X.env.scope.names.lookup x=some .local):=by
 simp only[setB,xt,Bool.or_eq_true]at h
 exact⟨zF3 h.1,by simpa using h.2.1,zI3 h.2.2.1,by simpa using h.2.2.2⟩
theorem zX0 {j:Nat}{x:Str}{pos':Pos}(h:(setB X j x && nco e)=true) (he:DE X K E e m):DS1 X K E (.Assign [.Name x pos'] e pos) (DS.sSet j m):=by
 rw[xt]at h
 have z:=zEx h.1
 exact zTg z.1 z.2.1 z.2.2.1 he z.2.2.2 h.2
theorem zTd {j:Nat}{x:Str}(h:setB X j x=true):DG X K (.Name x pos) (DS.gName j):=
 have z:=zEx h
 zTp z.1 z.2.1 z.2.2.1 z.2.2.2
theorem zIn {tg iter:Expr}{n:Nat}{ix:List Nat}{scope:Scope}(h:cmpB X tg iter n ix scope=true):X.calm=true/\nse iter=true/\(tgN tg).length=n/\CompScope X (tgN tg) (freN X.N ix) ix scope:=by
 simp only[cmpB,xt]at h
 exact⟨h.1,h.2.1,by simpa using h.2.2.1,.mk' rfl rfl h.2.2.2⟩
section
variable {ix:List Nat}{n:Nat}{scope:Scope}{j:Nat}{x:Str}{cpos pos':Pos}{tg elt iter:Expr}{ifs:List Expr}{im:DS.IM}{g:DS.GM}
theorem zTe (h:cmpB X tg iter n ix scope=true) (hi:DI X K E tg iter im)
  (hg:∀cl C s H fp,DG (zA4 X (tgN tg++freN X.N ix) scope cl C s H fp) K tg g) (ht:∀cl C s H fp,DIf (zA4 X (tgN tg++freN X.N ix) scope cl C s H fp) K E ifs mt) (he:∀cl C s H fp,DE (zA4 X (tgN tg++freN X.N ix) scope cl C s H fp) K E elt m):
  DF X K E (.ListComp elt [⟨tg,iter,ifs,0⟩] scope pos) (DS.zAs n ix im g mt m):=
 have z:=zIn h
 zTt z.1 z.2.2.2 hi hg ht he z.2.2.1 z.2.1
theorem zTc (hsw:swapsWith (.ListComp elt [⟨tg,iter,ifs,0⟩] scope cpos) (some (.Name x pos')) pos.line X.env=pure true) (h1:setB X j x=true) (h:cmpB X tg iter n ix scope=true) (hi:DI X K E tg iter im)
  (hg:∀cl C s H fp,DG (zA4 X (tgN tg++freN X.N ix) scope cl C s H fp) K tg g) (ht:∀cl C s H fp,DIf (zA4 X (tgN tg++freN X.N ix) scope cl C s H fp) K E ifs mt) (he:∀cl C s H fp,DE (zA4 X (tgN tg++freN X.N ix) scope cl C s H fp) K E elt m):
  DS1 X K E (.Assign [.Name x pos'] (.ListComp elt [⟨tg,iter,ifs,0⟩] scope cpos) pos) (DS.sSet j (DS.zAs n ix im g mt m)):=
 have z:=zIn h
 have y:=zEx h1
 zPd y.1 y.2.1 y.2.2.1 z.1 z.2.2.2 hi hg ht he hsw z.2.1 y.2.2.2 z.2.2.1
end
noncomputable def glB (X:Cx) (x:Str):Bool:=X.env.kindOf x == some .globalImplicit
theorem zT1 {x:Str}(h:glB X x=true):Gl X x:=by simpa[glB,Gl]using h
noncomputable def zJq (X:Cx) (x:Str) (es:List Expr):Bool:=glB X x && (!(x == ("__debug__":Str)) && (!(x == ("__name__":Str)) && es.all nst))
theorem zCl {x:Str}(h:zJq X x es=true):Gl X x/\(x == ("__debug__":Str))=false/\x≠"__name__"/\es.all nst=true:=by
 simp only[zJq,xt,Bool.not_eq_true']at h
 exact⟨zT1 h.1,h.2.1,by simpa using h.2.2.1,h.2.2.2⟩
theorem zTf {x:Str}{k:Nat}{ps:List Str}{F:DS.Fn}{am:DS.AM}(C:Cal X.prog X.w X.K X.mg X.base x k ps (spOf K E F)) (hr:Room k X.A) (h:zJq X x (e::es)=true) (ha:DA X K E (e::es) am):DE X K E (.Call (.Name x p) (e::es) [] pos) (DS.zA9 F am):=
 have z:=zCl h
 zTw C hr z.1 ha z.2.1 z.2.2.2
theorem zYv {x:Str}{iq:String}{am:DS.AM}{g:Store->List D->Option D}(hc:zAx X (.builtin iq) (cOf K g)) (hv:bootBuiltins x=some (.builtin iq)) (hm:X.mg x=none) (h:zJq X x (e::es)=true) (ha:DA X K E (e::es) am):DE X K E (.Call (.Name x p) (e::es) [] pos) (DS.eCB g am):=
 have z:=zCl h
 zZ6 hc z.1 hm hv ha z.2.2.1 z.2.1 z.2.2.2
theorem zYu {x:Str}{T:String}{am:DS.AM}{g:Store->List D->Option D}(hc:zAx X (.type T) (cOf K g)) (hv:bootBuiltins x=some (.type T)) (hm:X.mg x=none) (h:zJq X x (e::es)=true) (ha:DA X K E (e::es) am):DE X K E (.Call (.Name x p) (e::es) [] pos) (DS.eCB g am):=
 have z:=zCl h
 zZ5 hc z.1 hm hv ha z.2.2.1 z.2.1 z.2.2.2
theorem zYt {x:Str}{T:String}{am:DS.AM}{g:Store->List D->Option D}(hc:zAx X (.type T) (cOfF K g)) (hv:bootBuiltins x=some (.type T)) (hm:X.mg x=none) (h:zJq X x (e::es)=true) (ha:DA X K E (e::es) am):DF X K E (.Call (.Name x p) (e::es) [] pos) (DS.eCB g am):=
 have z:=zCl h
 zYy hc z.1 hm hv ha z.2.2.1 z.2.1 z.2.2.2
structure MtS (T:String) (x:Str) (iq:String):Prop where
 pa:PlainAttrs T
 sl:Slot T x iq
 ty:typeOf (.builtin iq)=pure (.type "method_descriptor")
 hT:T="str"\/T="list"\/T="dict"
theorem zNu:MtS "list" "append" "list.append":=⟨PySem.F.plainAttrs_list,PySem.F.slot_list_append,PySem.F.type_list_append,.inr (.inl rfl)⟩
theorem s_pop:MtS "list" "pop" "list.pop":=⟨PySem.F.plainAttrs_list,PySem.F.slot_list_pop,PySem.F.type_list_pop,.inr (.inl rfl)⟩
noncomputable def mtB (o:Expr) (es:List Expr) (apos cpos:Pos):Bool:=nba o && (es.all nst && (decide (es.length+0+0<30) && (apos.endLine == cpos.line)))
theorem zYs {T iq:String}{x:Str}{o:Expr}{apos cpos:Pos}{g:Store->D->List D->Option (D × Store)}{mo:DS.EM}{am:DS.AM}(S:MtS T x iq) (hm:MtR X iq (mOf K g)) (h:mtB o (e::es) apos cpos=true) (hK:X.K=K) (ho:DE X K E o mo) (ha:DA X K E (e::es) am):
  DE X K E (.Call (.Attribute o x apos) (e::es) [] cpos) (DS.eMt T g mo am):=by
 simp only[mtB,xt]at h
 exact zZ3 S.pa S.sl S.ty hm S.hT ho ha h.1 h.2.1 h.2.2.1 h.2.2.2 hK
theorem zX2 {T iq:String}{x:Str}{o:Expr}{apos cpos:Pos}{g:Store->D->List D->Option (D × Store)}{mo:DS.EM}(S:MtS T x iq) (hm:MtR X iq (mOf K g)) (h:mtB o [] apos cpos=true) (hK:X.K=K) (ho:DE X K E o mo):
  DE X K E (.Call (.Attribute o x apos) [] [] cpos) (DS.eMt T g mo DS.aNil):=by
 simp only[mtB,xt]at h
 exact zXm S.pa S.sl S.ty hm S.hT ho h.1 h.2.2.2 hK
end
noncomputable def scB (N ps:List Str) (sc:Scope):Bool:=sc.kind == .function && (!sc.isCoroutine && (!sc.isGenerator && (ndB N && (N.take ps.length == ps && (ps.all (fun x=>locB (sc.names.lookup x)) && sc.names.all fun y=>y.2 != .free)))))
theorem zH0 {N ps:List Str}{sc:Scope}(h:scB N ps sc=true):zCu N ps sc:=by
 simp only[scB,xt,Bool.not_eq_true',vK]at h
 obtain⟨h1,h2,h3,h4,h5,h6,h7⟩:=h
 exact⟨by simpa using h1,h2,h3,zF3 h4,by simpa using h5,fun x hx=>zI3 (h6 x hx),fun y hy=>by simpa using h7 y hy⟩
noncomputable abbrev fO (x:Str) (tq:Stmt) (pm:Value) (cd:Addr):Obj:=⟨.type "function",none,.func (PySem.W.fnOf x x (zBi tq) (zAr tq) (zA5 tq) .none .none .none pm none (.ref cd) .none),#[]⟩
structure Gd (K:PySem.W.Frag) (mg:Str->Option Value):Prop where
 a:∀x v,PySem.W.nsIn K mainGlobals x=some (some v)->mg x=some v
 z:∀x,PySem.W.nsIn K mainGlobals x=some none->mg x=none
section
variable {P:Program}{w:World}{K:PySem.W.Frag}{mg:Str->Option Value}{base:Heap}
theorem zM5 {f cd:Addr}{x:Str}{tq:Stmt}{pm:Value}(l:K.lookup f=some (fO x tq pm cd)) (c:PySem.W.codeIn K (.ref cd) x=true) (kp:PySem.W.keepIn K (.ref f)=true):Fun K x x tq f (PySem.W.fnOf x x (zBi tq) (zAr tq) (zA5 tq) .none .none .none pm none (.ref cd) .none):=zWm l c kp
theorem zE0 (G:Gd K mg) (f cd:Addr) (tq:Stmt) (pm:Value) (N:List Str) {x:Str}{ps:List Str}{k:Nat}{b:DS.SM}
  (hb:∀(cdv:Value) (A:Around) (outer:List PySem.Env) (s:Shared) (H:Hp) (E:XK),Room k (A.deeper (envOfC x (zA5 tq) s.heap.objs.size f cdv))->DSs (cxOf CX0 P w K mg base N x (zA5 tq) f cdv A outer s H E).nox K XE0 (zAr tq) b)
  (l:K.lookup f=some (fO x tq pm cd)) (c:(PySem.W.codeIn K (.ref cd) x && (PySem.W.keepIn K (.ref f) && scB N ps (zA5 tq)))=true) (hm:PySem.W.nsIn K mainGlobals x=some (some (.ref f)))
  (bd:∀(kV doc pm:Value) (an:Option Addr) (cdv ct:Value) (us:List Value),us.length=ps.length->bindArgs (PySem.W.fnOf x x (zBi tq) (zAr tq) (zA5 tq) .none kV doc pm an cdv ct) ⟨us,[]⟩=pure (ps.zip us)):Cal P w K mg base x (k+1) ps (spOf K XE0 (DS.zAv ps.length N.length b)):=by
 rw[xt,xt]at c
 have F:=zM5 l c.1 c.2.1
 exact⟨_,_,fn_d F (zH0 c.2.2) rfl rfl hb,G.a _ _ hm,F.kp,F.binds bd⟩
theorem zZ9 (G:Gd K mg) (f cd:Addr) (tq:Stmt) (pm:Value) (N:List Str) {x:Str}{ps:List Str}{k:Nat}{b:DS.SM}
  (hb:∀(cdv:Value) (A:Around) (outer:List PySem.Env) (s:Shared) (H:Hp) (E:XK),Room k (A.deeper (envOfC x (zA5 tq) s.heap.objs.size f cdv))->DSs (cxOf CX0 P w K mg base N x (zA5 tq) f cdv A outer s H E).nox K XE0 (zAr tq) b)
  (l:K.lookup f=some (fO x tq pm cd)) (c:(PySem.W.codeIn K (.ref cd) x && (PySem.W.keepIn K (.ref f) && scB N ps (zA5 tq)))=true) (hm:PySem.W.nsIn K mainGlobals x=some (some (.ref f)))
  (bd:∀(kV doc pm:Value) (an:Option Addr) (cdv ct:Value) (us:List Value),us.length=ps.length->bindArgs (PySem.W.fnOf x x (zBi tq) (zAr tq) (zA5 tq) .none kV doc pm an cdv ct) ⟨us,[]⟩=pure (ps.zip us)):Cal P w K mg base x (k+1) ps (spOf K XE0 (DS.zDz ps.length N.length b)):=by
 rw[xt,xt]at c
 have F:=zM5 l c.1 c.2.1
 exact⟨_,_,fn_r F (zH0 c.2.2) rfl rfl hb,G.a _ _ hm,F.kp,F.binds bd⟩
end
end L2
namespace DS
noncomputable def eqI (_:Store) (x y:D):Option D:=match x,y with
 | .int a,.int b=>some (.bl (decide (a=b)))
 | _,_=>none
noncomputable def putN (S:Store) (o k v:D):Option Store:=match o with
 | .ref n=>match S[n]? with
  | some (.dct false ks vs)=>if zCf false k=true/\ks.length<most then some (S.set n (.dct false (put2 ks vs k v).1 (put2 ks vs k v).2))else none
  | _=>none
 | _=>none
theorem zT9 {S:Store}{a b:Int}:eqI S (.int a) (.int b)=some (.bl (decide (a=b))):=rfl
end DS
namespace L2
open PySem PySem.Spec PyProof.Rows
open DS (D Store Exn Rs SR)
section
variable {X:Cx}{K:PySem.W.Frag}
theorem zXq {pins:List (Addr × Obj)}{σ:St}{H:Hp}{s:Shared}{a:Addr}{kvs:List (Key × V)}{k:Key}{v:V}{u r:Value}{A:Around}{E:Value->Shared->Prop}{Q:Unit->Shared->Prop}(I:Inv X pins σ H s) (e:H a=some (.dK kvs)) (l:kvs.length<sizeLine) (ry:RelV (kV k) u) (rv:RelV v r) (h:∀s',Inv X pins σ (upd H a (.dK (putK kvs k v))) s'->Q () s'):
  wpAny (model X.prog X.w) A (setItem (.ref a) u r) Q E s:=by
 obtain⟨z,hd,vs,rel,dd⟩:=zX9 I.hok e
 refine wpAny_setItem_pairs (hsz:=by rw[<- rel.length];exact z) (zJ9 ry) dd fun h' dd' hs=>h _ ?_
 exact zMo I (by rw[e];exact True.intro) hs (let ⟨q,_,_,hq,_⟩:=dd';⟨q,hq⟩) (zQm (xp (zDk kvs k v) l) hd (rel.put k rv) dd')
theorem zY7:PSet X (pOf K DS.putN):=by
 intro pins s σ H o i v ov iv u Q I ro ri rv hq30
 obtain⟨J,S,d1,d2,d3,S',ha,r1,r2,r3,e,k⟩:=hq30
 unfold DS.putN at e
 split at e
 ·rename_i n
  obtain⟨a,ea,rfl⟩:=r1
  obtain⟨c,ec,ob,eo,rc⟩:=ha.at ea
  split at e
  ·rename_i ks vs es
   rw[ec]at es;cases es
   obtain⟨xs,q,rl⟩:=rc
   split at e
   ·rename_i hk
    cases e
    cases ro
    have hk1:=hk.1
    unfold DS.zCf at hk1
    rw[xt]at hk1
    rcases q with⟨_,kvs,rfl,rfl,rfl⟩|⟨z,_⟩
    ·obtain⟨kk,rfl⟩:=zHz hk1.1 fun l z=>by subst z;cases hk1.2
     obtain rfl:=zF9 r2
     obtain⟨p1,p2⟩:=zV0 (fun a b=>zFa) (k:=kk) rl r3
     exact zXq I eo (by have:=hk.2;rw[xF]at this;exact this) ri rv fun s' I'=>⟨_,I',k _ (ha.write ea ⟨_,.inl ⟨rfl,_,rfl,p1,rfl⟩,p2⟩) (.write ea)⟩
    ·cases z
   ·cases e
  ·cases e
 ·cases e
end
end L2
namespace DS
noncomputable section
open Classical
noncomputable def isq (d:D) (T:String):Option Bool:=match d with
 | .tup _=>if T="tuple" then some true else none
 | .ktup _=>if T="tuple" then some true else none
 | .int _=>if T="int" then some true else if T="bool" then some false else none
 | .bl _=>if T="bool" then some true else none
 | _=>none
noncomputable def isiQ (_:Store):List D->Option D
 | [d,.ty T]=>(isq d T).map D.bl
 | _=>none
theorem zSw {l:List D}:isq (.tup l) "tuple"=some true:=by unfold isq;exact xg rfl
theorem zSx {S:Store}{d:D}{T:String}{b:Bool}(h:isq d T=some b):isiQ S [d,.ty T]=some (.bl b):=by
 show(isq d T).map D.bl=_
 rw[h];rfl
end
end DS
namespace DS
noncomputable section
open Classical
noncomputable def lvs (l:List D):Prop:=∃n,n<=5/\∀d∈l,lv n d
noncomputable def inKO (S:Store) (x y:D):Option Bool:=match look S y with
 | some (.tup l)=>if lvs (x::l)then some (decide (x∈l))else none
 | some (.lst l)=>if lvs (x::l)then some (decide (x∈l))else none
 | some (.dct t ks _)=>if zCf t x=true then some (decide (x∈ks))else none
 | _=>none
noncomputable def inK (S:Store) (x y:D):Option D:=(inKO S x y).map D.bl
noncomputable def zE9 (S:Store) (x y:D):Option D:=(inKO S x y).map fun b=>.bl (!b)
end
end DS
namespace DS
noncomputable section
open Classical
noncomputable def zDf:D->Option (List D)
 | .tup l=>some l
 | _=>none
noncomputable def soG (f:Nat) (l m:List D):List D:=if f=0 then l++m else l.filter fun x=>if f=1 then decide (x∈m)else !decide (x∈m)
noncomputable def soL (f:Nat) (_:Store) (x y:D):Option D:=match zDf x,zDf y with
 | some l,some m=>if(l++m).length<=300/\setable (l++m)then some (.lst (srt (dedup (soG f l m))))else none
 | _,_=>none
end
end DS
namespace DP
open DS
noncomputable section
noncomputable def zDv:SM:=
  (sRet (eCB zC2 (zA0 (eUn ssL (eVar 0)) aNil)))
noncomputable def zAc:Fn:=zAv 1 1 zDv
noncomputable def zEm:SM:=
  (sRet (eCB zC2 (zA0 (eOp (soL 0) (eVar 0) (eVar 1)) aNil)))
noncomputable def zBy:Fn:=zAv 2 2 zEm
noncomputable def zGp:SM:=
  (sRet (eCB zC2 (zA0 (eOp (soL 1) (eVar 0) (eVar 1)) aNil)))
noncomputable def zDq:Fn:=zAv 2 2 zGp
noncomputable def zGo:SM:=
  (sRet (eCB zC2 (zA0 (eOp (soL 2) (eVar 0) (eVar 1)) aNil)))
noncomputable def zCi:Fn:=zAv 2 2 zGo
noncomputable def zHo:SM:=
  (sSeq (sSet 2 (zAs 1 [] (iVal (eSl slD (eVar 0) (pYes (eVar 1)) (pYes (eC (.int 63))))) (gName 0) tYes (eCB max2B (zA0 (eVar 0) (zA0 (eOp subD (eC (.int 0)) (eVar 0)) aNil)))))
  (sSeq (sSet 3 (eOp addD (eC (.int 7919)) (eVar 1)))
  (sSeq (sFor (iVal (eVar 2)) (gName 4) (sSet 3 (eOp modD (eOp addD (eOp mulD (eVar 3) (eC (.int 48271))) (eOp modD (eVar 4) (eC (.int 2147483629)))) (eC (.int 2147483647)))))
  (sRet (zPc [(.str (PySem.Str.ofString "seed")),(.str (PySem.Str.ofString "number")),(.str (PySem.Str.ofString "left"))] (zA0 (eVar 3) (zA0 (eC (.int 0)) (zA0 (eNew (eUn revL (zAs 1 [] (iVal (eVar 2)) (gName 0) (tB (eOp geD (eVar 0) (eOp powD (eC (.int 10)) (eC (.int 18))))) (eVar 0)))) aNil))))))))
noncomputable def zC6:Fn:=zDz 2 5 zHo
noncomputable def zHn:SM:=
  (sSeq (zDi (tAnd (tB (eOp eqI (eOp ixD (eVar 0) (eC (.str (PySem.Str.ofString "number")))) (eC (.int 0)))) (tB (eOp gtD (eCB lenB (zA0 (eOp ixD (eVar 0) (eC (.str (PySem.Str.ofString "left")))) aNil)) (eC (.int 0))))) (sPut putN (eVar 0) (eC (.str (PySem.Str.ofString "number"))) (eMt "list" popM (eOp ixD (eVar 0) (eC (.str (PySem.Str.ofString "left")))) aNil)))
  (sSeq (sSet 2 (eOp ixD (eVar 0) (eC (.str (PySem.Str.ofString "number")))))
  (sSeq (sIf (tB (eOp gtD (eVar 2) (eC (.int 0)))) (sSeq (sPut putN (eVar 0) (eC (.str (PySem.Str.ofString "number"))) (eOp zM8 (eVar 2) (eVar 1)))
  (sRet (eOp modD (eVar 2) (eVar 1)))) zCo)
  (sSeq (sSet 3 (eOp modD (eOp addD (eOp mulD (eOp ixD (eVar 0) (eC (.str (PySem.Str.ofString "seed")))) (eC (.int 48271))) (eC (.int 7919))) (eC (.int 2147483647))))
  (sSeq (sPut putN (eVar 0) (eC (.str (PySem.Str.ofString "seed"))) (eOp modD (eOp addD (eOp mulD (eVar 3) (eC (.int 40692))) (eC (.int 104729))) (eC (.int 2147483399))))
  (sSeq (sSet 4 (eOp modD (eOp mulD (eOp ixD (eVar 0) (eC (.str (PySem.Str.ofString "seed")))) (eOp ixD (eVar 0) (eC (.str (PySem.Str.ofString "seed"))))) (eC (.int 2147483563))))
  (sRet (eOp modD (eOp addD (eOp mulD (eOp modD (eOp mulD (eVar 3) (eVar 3)) (eC (.int 2147483629))) (eC (.int 2147483563))) (eVar 4)) (eVar 1)))))))))
noncomputable def zA1:Fn:=zAv 2 5 zHn
noncomputable def zD2:SM:=
  (sSeq (sIf (tOr (tNot (tTru (eCB isiQ (zA0 (eVar 0) (zA0 (eC (.ty "tuple")) aNil))))) (tNot (tTru (eCB allB (zA0 (zAs 2 [] (iZp true true (zA0 (eVar 0) (zA0 (eSl slD (eVar 0) (pYes (eC (.int 1))) pNo) aNil))) (gTup [(gName 0),(gName 1)]) tYes (eOp ltN (eVar 0) (eVar 1))) aNil))))) (sRet (eC (.bl false))) zCo)
  (sRet (eAnd (eCB allB (zA0 (zAs 1 [1] (iVal (eVar 0)) (gName 0) tYes (eOp inK (eVar 0) (eVar 1))) aNil)) (eCB allB (zA0 (zAs 1 [0] (iVal (eVar 1)) (gName 0) tYes (eOp inK (eVar 0) (eVar 1))) aNil)))))
noncomputable def zA2:Fn:=zAv 2 2 zD2
noncomputable def zBu:SM:=
  (sSeq (sSet 1 (eOp ixD (eLst (zA0 (eC (.int 2)) (zA0 (eC (.int 4)) (zA0 (eC (.int 1000)) (zA0 (eOp powD (eC (.int 10)) (eC (.int 18))) aNil))))) (zA9 zA1 (zA0 (eVar 0) (zA0 (eC (.int 4)) aNil)))))
  (sSeq (sSet 2 (eNew (eLst aNil)))
  (sSeq (sFor (zIc (zA0 (eOp ixD (eLst (zA0 (zA9 zA1 (zA0 (eVar 0) (zA0 (eC (.int 7)) aNil))) (zA0 (zA9 zA1 (zA0 (eVar 0) (zA0 (eC (.int 41)) aNil))) aNil))) (zA9 zA1 (zA0 (eVar 0) (zA0 (eC (.int 2)) aNil)))) aNil)) (gName 3) (zKl (eMt "list" zC7 (eVar 2) (zA0 (eTup (zA0 (eOp subD (zA9 zA1 (zA0 (eVar 0) (zA0 (eOp addD (eOp mulD (eC (.int 2)) (eVar 1)) (eC (.int 1))) aNil))) (eVar 1)) (zA0 (eOp subD (zA9 zA1 (zA0 (eVar 0) (zA0 (eOp addD (eOp mulD (eC (.int 2)) (eVar 1)) (eC (.int 1))) aNil))) (eVar 1)) aNil))) aNil))))
  (sRet (eVar 2)))))
noncomputable def zB8:Fn:=zAv 1 4 zBu
noncomputable def zE2:SM:=
  (sSeq (sIf (tOr (tB (eOp eqD (eVar 1) (eLst aNil))) (tB (eOp eqD (zA9 zA1 (zA0 (eVar 0) (zA0 (eC (.int 2)) aNil))) (eC (.int 0))))) (sRet (eVar 1)) zCo)
  (sSeq (sSet 2 (zA9 zA1 (zA0 (eVar 0) (zA0 (eCB lenB (zA0 (eVar 1) aNil)) aNil))))
  (sRet (eOp addD (eOp addD (eSl slD (eVar 1) (pYes (eVar 2)) pNo) (eVar 1)) (eLst (zA0 (eOp ixD (eVar 1) (eVar 2)) aNil))))))
noncomputable def zAt:Fn:=zAv 2 3 zE2
noncomputable def zGq:SM:=
  (sSeq (sPar [2,3] (zA0 (zA9 zAc (zA0 (eVar 0) aNil)) (zA0 (zA9 zAc (zA0 (eVar 1) aNil)) aNil)))
  (sSeq (sIf (tOr (tNot (tTru (zA9 zA2 (zA0 (eVar 2) (zA0 (eVar 0) aNil))))) (tNot (tTru (zA9 zA2 (zA0 (eVar 3) (zA0 (eVar 1) aNil)))))) (sRet (eC (.bl false))) zCo)
  (sSeq (sIf (tNot (tTru (zA9 zA2 (zA0 (zA9 zBy (zA0 (eVar 2) (zA0 (eVar 3) aNil))) (zA0 (eOp addD (eCB zD0 (zA0 (eVar 0) aNil)) (eCB zD0 (zA0 (eVar 1) aNil))) aNil))))) (sRet (eC (.bl false))) zCo)
  (sSeq (sSet 4 (zAs 1 [1] (iVal (eVar 0)) (gName 0) (tB (eOp inK (eVar 0) (eVar 1))) (eVar 0)))
  (sSeq (sIf (tNot (tTru (zA9 zA2 (zA0 (zA9 zDq (zA0 (eVar 2) (zA0 (eVar 3) aNil))) (zA0 (eVar 4) aNil))))) (sRet (eC (.bl false))) zCo)
  (sRet (zA9 zA2 (zA0 (zA9 zCi (zA0 (eVar 2) (zA0 (eVar 3) aNil))) (zA0 (zAs 1 [1] (iVal (eVar 0)) (gName 0) (tB (eOp zE9 (eVar 0) (eVar 1))) (eVar 0)) aNil)))))))))
noncomputable def zAo:Fn:=zAv 2 5 zGq
noncomputable def zU3:SM:=
  (sSeq (sSet 1 (zA9 zC6 (zA0 (eVar 0) (zA0 (eC (.int 0)) aNil))))
  (sSeq (sPar [2,3] (zA0 (zA9 zB8 (zA0 (eVar 1) aNil)) (zA0 (zA9 zB8 (zA0 (eVar 1) aNil)) aNil)))
  (sSeq (sSet 3 (eOp addD (eVar 3) (eSl slD (eVar 2) pNo (pYes (zA9 zA1 (zA0 (eVar 1) (zA0 (eOp addD (eCB lenB (zA0 (eVar 2) aNil)) (eC (.int 1))) aNil)))))))
  (sSeq (sPar [2,3] (zA0 (zA9 zAt (zA0 (eVar 1) (zA0 (eVar 2) aNil))) (zA0 (zA9 zAt (zA0 (eVar 1) (zA0 (eVar 3) aNil))) aNil)))
  (sSeq (sIf (tB (eOp eqD (zA9 zA1 (zA0 (eVar 1) (zA0 (eC (.int 8)) aNil))) (eC (.int 0)))) (sSet 3 (eUn revS (eVar 2))) zCo)
  (sSeq (sSet 4 (eNew (eCB zD0 (zA0 (eVar 2) aNil))))
  (sSeq (sSet 5 (zA9 zAc (zA0 (eVar 4) aNil)))
  (sSeq (sIf (tOr (tB (eOp neD (eVar 4) (eVar 2))) (tOr (tNot (tTru (zA9 zAo (zA0 (eCB zC2 (zA0 (eVar 2) aNil)) (zA0 (eVar 3) aNil))))) (tNot (tTru (zA9 zAo (zA0 (eVar 3) (zA0 (eVar 2) aNil))))))) (sRet (eC (.bl false))) zCo)
  (sSeq (zKl (eMt "list" zC7 (eVar 4) (zA0 (eTup (zA0 (eC (.int 7)) (zA0 (eC (.int 7)) aNil))) aNil)))
  (sSeq (sIf (tOr (tB (eOp neD (eVar 5) (zA9 zAc (zA0 (eCB zC2 (zA0 (eVar 2) aNil)) aNil)))) (tNot (tTru (zA9 zA2 (zA0 (zA9 zAc (zA0 (eVar 4) aNil)) (zA0 (eVar 4) aNil)))))) (sRet (eC (.bl false))) zCo)
  (sRet (eAnd (zA9 zA2 (zA0 (eVar 5) (zA0 (eVar 2) aNil))) (eAnd (eOp eqD (zA9 zAc (zA0 (eLst aNil) aNil)) (eTup aNil)) (eOp eqD (zA9 zAc (zA0 (eTup aNil) aNil)) (eTup aNil)))))))))))))))
noncomputable def zJd:Fn:=zAv 1 6 zU3
end
end DP
namespace L2
open PySem PySem.Spec PyProof.Rows
open DS (D Store Exn Rs SR)
section
variable {X:Cx}{K:PySem.W.Frag}
theorem zC3 (K:PySem.W.Frag):PySem.W.kitOne K (.type "tuple") (.type "tuple")=some true:=by first|rfl|(unfold PySem.W.kitOne;rfl)|(unfold PySem.W.kitOne;simp;rfl)
theorem zJ7 (K:PySem.W.Frag):PySem.W.kitOne K (.type "int") (.type "int")=some true:=by first|rfl|(unfold PySem.W.kitOne;rfl)|(unfold PySem.W.kitOne;simp;rfl)
theorem zH8 (K:PySem.W.Frag):PySem.W.kitOne K (.type "int") (.type "bool")=some false:=by first|rfl|(unfold PySem.W.kitOne;rfl)|(unfold PySem.W.kitOne;simp;rfl)
theorem zG5 (K:PySem.W.Frag):PySem.W.kitOne K (.type "bool") (.type "bool")=some true:=by first|rfl|(unfold PySem.W.kitOne;rfl)|(unfold PySem.W.kitOne;simp;rfl)
theorem zN5 (hK:X.K=K:=by rfl):zAx X (.builtin "isinstance") (cOf K DS.isiQ):=by
 subst hK
 intro pins s σ H xs us Q I r hq31
 obtain⟨J,S,ds,d,ha,rl,e,k⟩:=hq31
 have fin:∀{b:Bool},(∀v H',AbS X.K J S H'->Grow J H J H'->Rep X.K J H' (.bl b) v->Q v H')->∀tk,EP X pins σ Q (.bool b) { s with toks:=tk }:=fun k tk=>⟨.bl _,H,I.tok _,rfl,k _ H ha .refl rfl⟩
 unfold DS.isiQ at e
 split at e
 ·rename_i d T
  obtain⟨b,eb,rfl⟩:=Option.map_eq_some_iff.mp e
  obtain⟨x,y,rfl,rx,ry⟩:=zGv rl
  obtain⟨u,w,rfl,ru,rw⟩:=vals2 r
  obtain rfl:=ry
  cases rw
  have one:∀{c:Prop}[Decidable c] {v:Bool},(if c then some v else none)=some b->c/\v=b:=fun {c} _ {v} h=>by
   by_cases q:c
   ·rw[xg q]at h;cases h;exact⟨q,rfl⟩
   ·rw[xh q]at h;cases h
  cases d with
  | tup l=>
   obtain⟨rfl,rfl⟩:=one eb
   obtain⟨a,ys,rfl,t,_⟩:=rx
   cases ru
   obtain⟨_,_,_,p⟩:=(I.hok a _ t.1)
   obtain⟨o,h1,h2,_⟩:=p
   exact ya PySem.W.kitx_tuple I.kIn ⟨o,h1,h2⟩ (zC3 X.K) (fun z=>nomatch z) (fin k)
  | ktup l=>
   obtain⟨rfl,rfl⟩:=one eb
   obtain⟨a,ys,rfl,⟨o,its,n,lk,hc,_⟩,_⟩:=rx
   cases ru
   exact ya PySem.W.kitx_tuple I.kIn ⟨o,I.kIn _ _ lk,hc⟩ (zC3 X.K) (fun z=>nomatch z) (fin k)
  | int n=>
   obtain rfl:=rx
   obtain⟨t,rfl⟩:=ru
   unfold DS.isq at eb
   dsimp only at eb
   by_cases q:T="int"
   ·rw[xg q]at eb
    cases eb
    subst q
    exact ya PySem.W.kitx_int I.kIn True.intro (zJ7 X.K) (fun z=>nomatch z) (fin k)
   ·rw[xh q]at eb
    obtain⟨rfl,rfl⟩:=one eb
    exact ya PySem.W.kitx_int I.kIn True.intro (zH8 X.K) (fun z=>nomatch z) (fin k)
  | bl n=>
   obtain⟨rfl,rfl⟩:=one eb
   obtain rfl:=rx
   cases ru
   exact ya PySem.W.kitx_bool I.kIn True.intro (zG5 X.K) (fun z=>nomatch z) (fin k)
  | _=>cases eb
 ·cases e
end
end L2
namespace L2
open PySem PySem.Spec PyProof.Rows
open DS (D Store Exn Rs SR)
section
variable {X:Cx}{K:PySem.W.Frag}
theorem zVv:OpR X (compareOp .Eq) (r2Of K DS.eqI):=by
 intro pins s σ H x y v u Q I rx ry hq32
 obtain⟨J,S,d1,d2,d,ha,r1,r2,e,k⟩:=hq32
 unfold DS.eqI at e
 split at e
 ·cases e
  obtain rfl:=r1
  obtain rfl:=r2
  obtain⟨t,rfl⟩:=rx
  obtain⟨t',rfl⟩:=ry
  exact eq_int ⟨.bl _,H,I,rfl,k _ H ha .refl rfl⟩
 ·cases e
end
end L2
namespace L2
open PySem PySem.Spec PyProof.Rows EK
open DS (D Store Exn Rs SR lv)
section
open Classical
variable {X:Cx}{K:PySem.W.Frag}{J:Js}{S:Store}{H:Hp}{d1 d2:D}
theorem zNc {h:Heap}{n:Nat}{d1:D}{l:List D}{us:List Value}(al:A2 (Ek h n) l us):us.any (fun z=>decide (Ek h n d1 z))=true <-> d1∈l:=by
 induction al with
 | nil=>simp
 | @cons d u l us r _ ih=>
  rw[List.any_cons,Bool.or_eq_true,ih,decide_eq_true_iff,xn]
  exact or_congr ⟨fun q=>q.inj r,fun e=>e ▸ r⟩ Iff.rfl
theorem A2.at {α β:Type}{R:α->β->Prop}{l:List α}{m:List β}(h:A2 R l m):∀(i:Nat) (b:β),m[i]?=some b->∃a,l[i]?=some a/\R a b:=by
 induction h with
 | nil=>intro i b e;cases e
 | cons r _ ih=>
  intro i b e
  cases i with
  | zero=>cases e;exact⟨_,rfl,r⟩
  | succ i=>exact ih i b e
theorem zLi {s:Shared}{A:Around}{n:Nat}{u:Value}{l:List D}{us:List Value}(hu:A.units+64<cLine) (hn:n<=5) (q1:Ek s.heap n d1 u) (al:A2 (Ek s.heap n) l us):∀z∈us,SeqAt.EqAt A.in1 s z u (decide (Ek s.heap n d1 z)):=fun z hz=>by
 obtain⟨i,ei⟩:=uT.mp hz
 obtain⟨d,_,r⟩:=A2.at al i z ei
 refine fun prog w E Q hq=>zJg n r q1 (by show A.units+1+n<cLine;lia) ?_
 rw[show decide (d=d1)=decide (Ek s.heap n d1 z)from uN.mpr ⟨fun e=>e ▸ r,fun q=>r.inj q⟩]
 exact hq
theorem zQf {pins:List (Addr × Obj)}{σ:St}{s:Shared}{x y:V}{u w:Value}{Q:VK}{b:Bool}(neg:Bool) (hu:X.A.units+64<cLine) (I:Inv X pins σ H s) (rx:RelV x u) (ry:RelV y w) (ha:AbS X.K J S H) (r1:Rep X.K J H d1 x) (r2:Rep X.K J H d2 y) (e:DS.inKO S d1 d2=some b)
  (k:Q (.bl (if neg then !b else b)) H):wpAny (model X.prog X.w) X.A (compareOp (if neg then .NotIn else .In) u w) (EP X pins σ Q) X.xe s:=by
 have hu1:X.A.units+1<cLine:=by nofun
 have seq:∀(l:List D),DS.items S d2=some l->DS.lvs (d1::l)->(b=true <-> d1∈l)->wpAny (model X.prog X.w) X.A (compareOp (if neg then .NotIn else .In) u w) (EP X pins σ Q) X.xe s:=fun l e1 hl eb=>by
  obtain⟨n,hn,hl⟩:=hl
  obtain⟨a,xs,rfl,hq,rl⟩:=zCg ha r2 e1
  cases ry
  have q1:=zHc I n (hl _ (.head _)) r1 rx
  rcases hq with hq|hq
  ·obtain⟨its,r,pl,hz⟩:=I.list hq
   have al:=zIh I (fun d hd=>hl d (.tail _ hd)) rl r
   have ea:its.toArray.any (fun z=>decide (Ek s.heap n d1 z))=b:=by rw[v5,eb,<- zNc al];simp
   have hg:=zLi hu hn q1 al
   cases neg with
   | true=>exact SeqAt.notIn_listAt _ pl.isList (fun z hz=>hg z (by simpa using hz)) ⟨.bl _,H,I,rfl,by rw[ea];exact k⟩
   | false=>exact SeqAt.in_listAt _ pl.isList (fun z hz=>hg z (by simpa using hz)) ⟨.bl _,H,I,rfl,by rw[ea];exact k⟩
  ·obtain⟨its,r,pl,hz⟩:=I.tuple hq
   have al:=zIh I (fun d hd=>hl d (.tail _ hd)) rl r
   have ea:its.toArray.any (fun z=>decide (Ek s.heap n d1 z))=b:=by rw[v5,eb,<- zNc al];simp
   have hg:=zLi hu hn q1 al
   cases neg with
   | true=>exact SeqAt.notIn_tupleAt _ pl (fun z hz=>hg z (by simpa using hz)) ⟨.bl _,H,I,rfl,by rw[ea];exact k⟩
   | false=>exact SeqAt.in_tupleAt _ pl (fun z hz=>hg z (by simpa using hz)) ⟨.bl _,H,I,rfl,by rw[ea];exact k⟩
 unfold DS.inKO at e
 split at e
 ·rename_i l e1
  split at e
  ·rename_i h;cases e;exact seq l (zAz (.inl e1)) h decide_eq_true_iff
  ·cases e
 ·rename_i l e1
  split at e
  ·rename_i h;cases e;exact seq l (zAz (.inr e1)) h decide_eq_true_iff
  ·cases e
 ·rename_i t ks vs e1
  split at e
  ·rename_i hk
   cases e
   obtain⟨a,o,xs,rfl,he,q,rl⟩:=zMn ha r2 e1
   cases ry
   rcases zMj he q rl r1 hk with⟨g,h,_⟩|⟨w,dv,g,h,_⟩
   ·rw[xy h]at k
    cases neg with
    | true=>exact zMp hu1 I g rx fun s' I'=>⟨.bl _,H,I',rfl,k⟩
    | false=>exact d_in hu1 I g rx fun s' I'=>⟨.bl _,H,I',rfl,k⟩
   ·rw[xB h]at k
    cases neg with
    | true=>exact zMp hu1 I g rx fun s' I'=>⟨.bl _,H,I',rfl,k⟩
    | false=>exact d_in hu1 I g rx fun s' I'=>⟨.bl _,H,I',rfl,k⟩
  ·cases e
 ·cases e
theorem zQ6 (hu:X.A.units+64<cLine) (hK:X.K=K:=by rfl):OpR X (compareOp .In) (r2Of K DS.inK):=by
 subst hK
 intro pins s σ H x y v u Q I rx ry hq33
 obtain⟨J,S,d1,d2,d,ha,r1,r2,e,k⟩:=hq33
 unfold DS.inK at e
 cases e1:DS.inKO S d1 d2 with
 | none=>rw[e1]at e;cases e
 | some b=>rw[e1]at e;cases e;exact zQf false hu I rx ry ha r1 r2 e1 (k _ H ha .refl rfl)
theorem zL8 (hu:X.A.units+64<cLine) (hK:X.K=K:=by rfl):OpR X (compareOp .NotIn) (r2Of K DS.zE9):=by
 subst hK
 intro pins s σ H x y v u Q I rx ry hq34
 obtain⟨J,S,d1,d2,d,ha,r1,r2,e,k⟩:=hq34
 unfold DS.zE9 at e
 cases e1:DS.inKO S d1 d2 with
 | none=>rw[e1]at e;cases e
 | some b=>rw[e1]at e;cases e;exact zQf true hu I rx ry ha r1 r2 e1 (k _ H ha .refl rfl)
end
end L2
namespace TB
open PySem
theorem gap:∀(m:Nat) (l:List Nat),l.length<=m->∃e,e<=m/\e ∉ l
 | 0,[],h=>⟨0,xi _,by simp⟩
 | 0,_::_,h=>by simp at h
 | m+1,l,h=>by
  by_cases c:m+1∈l
  ·obtain⟨e,h1,h2⟩:=gap m (l.erase (m+1)) (by rw[List.length_erase_of_mem c];lia)
   exact⟨e,by nofun,fun z=>h2 ((List.mem_erase_of_ne (by nofun)).mpr z)⟩
  ·exact⟨m+1,xi _,c⟩
structure TabD (t:SetTable) (n:Nat) (led:Bool):Prop where
 hm:Msk t.mask
 size:t.place.size=n
 up:Up t.place.toList
 dup:Up t.dummies.toList
 dis:∀j∈t.place.toList,j ∉ t.dummies.toList
 room:t.fill*5<t.mask*3
 plain:t.plain=true
 led:t.led=led
section
variable {t:SetTable}{n:Nat}{b:Bool}
theorem Tab.d (T:Tab t n b):TabD t n b:=⟨T.hm,T.size,T.up,by rw[T.nod];exact .nil,fun j _=>by rw[T.nod];simp,by rw[T.fill];exact T.room,T.plain,T.led⟩
theorem TabD.w (T:TabD t n b):TabW t n b:=⟨T.size,T.up,by have:=T.room;lia,T.plain,T.led⟩
theorem TabD.way (T:TabD t n b):t.gaveWay=false:=(by decide:∀m∈[7,15,31,63,127,255,511,1023,2047,4095],(m % 2 == 0)=false) _ T.hm
theorem TabD.turns (T:TabD t n b):10*SetTable.turns t.mask<100000:=(by decide:∀m∈[7,15,31,63,127,255,511,1023,2047,4095],10*SetTable.turns m<100000) _ T.hm
theorem zUp (u:Up t.place.toList) (v:Up t.dummies.toList) {j:Nat}:t.slot j=.empty <-> j ∉ t.place.toList/\j ∉ t.dummies.toList:=by
 unfold SetTable.slot SetTable.has
 rw[<- zCc u,<- zCc v]
 by_cases c:t.place[SetTable.below t.place j]?=some j
 ·simp[c]
 ·by_cases d:t.dummies[SetTable.below t.dummies j]?=some j <;> simp[c,d]
theorem TabD.e (T:TabD t n b) {j:Nat}:t.slot j=.empty <-> j ∉ t.place.toList/\j ∉ t.dummies.toList:=zUp T.up T.dup
theorem zKb {j i:Nat}(h:t.slot j=.live i):t.place[i]?=some j:=by
 unfold SetTable.slot at h
 dsimp only at h
 split at h
 ·rename_i c
  cases h
  exact eq_of_beq c
 ·split at h <;> cases h
theorem TabD.start (T:TabD t n b) (h:Int):∃m,m<10*SetTable.turns t.mask/\t.slot (adv t m (t.probeStart h)).j=.empty:=by
 obtain⟨e,he,hne⟩:=gap t.mask (t.place.toList++t.dummies.toList) (by have:=T.room;unfold SetTable.fill at this;simp;lia)
 obtain⟨c,hc,ec⟩:=zFy T.hm he
 refine⟨c,hc,?_⟩
 rw[ec,T.e]
 exact⟨fun z=>hne (vC _ z),fun z=>hne (xI _ z)⟩
theorem zBz {α:Type}(xs:Array α) (p:Nat):(SetTable.eraseAt xs p).toList=xs.toList.eraseIdx p:=by
 unfold SetTable.eraseAt
 rw[yo]
 simp[uX]
 exact uc (by simp)
theorem zFh {α:Type}:∀(l:List α) (i:Nat) (h:i<l.length),(l[i]::l.eraseIdx i).Perm l
 | a::l,0,_=>.refl _
 | a::l,i+1,h=>((List.Perm.swap _ _ _).trans ((zFh l i (by simpa using h)).cons a))
theorem zIg {α:Type}(xs:Array α) (p:Nat) (h:p<xs.size):(SetTable.eraseAt xs p).size=xs.size-1:=by
 have:=List.length_eraseIdx_of_lt (l:=xs.toList) (i:=p) (by simpa using h)
 rw[<- zBz]at this
 simpa using this
theorem zB6 {i j:Nat}(h:t.place[i]?=some j):t.drop i={ t with place:=SetTable.eraseAt t.place i,dummies:=SetTable.insertAt t.dummies (SetTable.below t.dummies j) j }:=by
 unfold SetTable.drop
 rw[h]
theorem zCj {i j k:Nat}(h:t.place[i]?=some j):(k∈t.place.toList <-> k=j\/k∈(t.drop i).place.toList)/\(k∈(t.drop i).dummies.toList <-> k=j\/k∈t.dummies.toList):=by
 obtain⟨z,e⟩:=x8.mp h
 rw[zB6 h]
 dsimp only
 rw[zBz]
 refine⟨?_,by rw[(ins_perm t.dummies _ j).mem_iff,xn]⟩
 have:=(zFh t.place.toList i (by simpa using z)).mem_iff (a:=k)
 rw[<- this,xn]
 simp[e]
theorem TabD.drop {i j:Nat}(T:TabD t n b) (h:t.place[i]?=some j):TabD (t.drop i) (n-1) b:=by
 obtain⟨z,e⟩:=x8.mp h
 have jp:j∈t.place.toList:=by rw[<- e];simp
 have hz:=T.size
 have sz:(SetTable.eraseAt t.place i).size=n-1:=by rw[zIg _ _ z,T.size]
 have nj:j ∉ (SetTable.eraseAt t.place i).toList:=by
  rw[zBz]
  intro hm
  obtain⟨k,ek⟩:=uT.mp hm
  rw[List.getElem?_eraseIdx]at ek
  split at ek
  ·obtain⟨z2,e2⟩:=xK.mp ek
   have:=zHs T.up z2 (by simpa using z) (by rw[e2];simpa using e.symm)
   lia
  ·obtain⟨z2,e2⟩:=xK.mp ek
   have:=zHs T.up z2 (by simpa using z) (by rw[e2];simpa using e.symm)
   lia
 have dm:=zCj (k:=j) h
 refine⟨by rw[zB6 h];exact T.hm,by rw[zB6 h];exact sz,?_,?_,fun k hk hd=>?_,?_,by rw[zB6 h];exact T.plain,by rw[zB6 h];exact T.led⟩
 ·rw[zB6 h]
  show Up (SetTable.eraseAt t.place i).toList
  rw[zBz]
  exact T.up.sublist (List.eraseIdx_sublist _ _)
 ·rw[zB6 h]
  refine ins_up T.dup fun q=>?_
  rw[zCc T.dup]at q
  exact T.dis j jp q
 ·rcases(zCj (k:=k) h).2.mp hd with rfl|hd
  ·rw[zB6 h]at hk;exact nj hk
  ·exact T.dis k ((zCj h).1.mpr (.inr hk)) hd
 ·have r:=T.room
  rw[zB6 h]
  show((SetTable.eraseAt t.place i).size+(SetTable.insertAt t.dummies (SetTable.below t.dummies j) j).size)*5<t.mask*3
  unfold SetTable.fill at r
  rw[sz,zFd]
  lia
theorem zX6 {i j k:Nat}(T:TabD t n b) (h:t.place[i]?=some j):(t.drop i).slot k=.empty <-> t.slot k=.empty:=by
 rw[T.e,(T.drop h).e,(zCj h).1,(zCj h).2]
 simp only[not_or]
 constructor
 ·rintro⟨h1,h2,h3⟩;exact⟨⟨h2,h1⟩,h3⟩
 ·rintro⟨⟨h2,h1⟩,h3⟩;exact⟨h1,h2,h3⟩
noncomputable def ChsD (t:SetTable) (hs:List Int):Prop:=∀q∈t.place.toList.zip hs,∃m,(adv t m (t.probeStart q.2)).j=q.1/\∀m',m'<m->t.slot (adv t m' (t.probeStart q.2)).j≠.empty
theorem Chs.d {hs:List Int}(T:Tab t n b) (C:Chs t hs):ChsD t hs:=fun q hq=>by
 obtain⟨m,e,al⟩:=C q hq
 exact⟨m,e,fun m' h z=>(T.d.e.mp z).1 (al m' h)⟩
theorem zJv {α β:Type}:∀(a:List α) (c:List β) (i:Nat) (q:α × β),q∈(a.eraseIdx i).zip (c.eraseIdx i)->q∈a.zip c
 | [],_,_,q,h=>by simp at h
 | _::_,[],_,q,h=>by simp at h
 | x::a,y::c,0,q,h=>vd _ h
 | x::a,y::c,i+1,q,h=>by
  rw[vP]
  rcases xn.mp h with rfl|h
  ·exact .head _
  ·exact .tail _ (zJv a c i q h)
theorem ChsD.drop {hs:List Int}{i j:Nat}(T:TabD t n b) (C:ChsD t hs) (h:t.place[i]?=some j):ChsD (t.drop i) (hs.eraseIdx i):=fun q hq=>by
 have hm:t.mask=(t.drop i).mask:=by rw[zB6 h]
 have hq2:q∈t.place.toList.zip hs:=by
  have e:(t.drop i).place.toList=t.place.toList.eraseIdx i:=by rw[zB6 h];exact zBz _ _
  rw[e]at hq
  exact zJv _ _ _ _ hq
 obtain⟨m,e,al⟩:=C q hq2
 refine⟨m,by rw[<- zAy hm,<- zBl hm];exact e,fun m' hm'=>?_⟩
 rw[<- zAy hm,<- zBl hm,ne_eq,zX6 T h]
 exact al m' hm'
theorem zFr (t:SetTable) (d:Option Nat):∀(m:Nat) (p:SetTable.Probe),adv t m { p with dummy:=d }={ adv t m p with dummy:=d }
 | 0,p=>rfl
 | m+1,p=>by
  show adv t m (t.advance { p with dummy:=d })={ adv t m (t.advance p)with dummy:=d }
  rw[<- zFr t d m]
  congr 1
  unfold SetTable.advance
  split <;> rfl
noncomputable def Pss (t:SetTable) (hashAt:Nat->Int) (h:Int) (j:Nat):Prop:=t.slot j=.dummy\/∃i,t.slot j=.live i/\(hashAt i == h)=false
theorem zKv {hashAt:Nat->Int}{h:Int}:∀(f m:Nat) (p:SetTable.Probe),m<f->t.slot (adv t m p).j=.empty->
  (∃d q,SetTable.probe.go t hashAt h f p=some (.empty (adv t d p).j q)/\t.slot (adv t d p).j=.empty/\∀d',d'<d->Pss t hashAt h (adv t d' p).j) \/
  (∃d i q,d<m/\SetTable.probe.go t hashAt h f p=some (.candidate (adv t d p).j i { adv t (d+1) p with dummy:=q })/\t.slot (adv t d p).j=.live i/\∀d',d'<d->Pss t hashAt h (adv t d' p).j)
 | 0,m,p,hf,_=>by nofun
 | f+1,m,p,hf,hm=>by
  unfold SetTable.probe.go
  have suc:t.slot p.j≠.empty->∃m',m=m'+1:=fun hs=>by
   cases m with
   | zero=>exact absurd hm hs
   | succ k=>exact⟨k,rfl⟩
  have go:∀(p':SetTable.Probe) (z:Option Nat) (m':Nat),m=m'+1->p'={ t.advance p with dummy:=z }->Pss t hashAt h p.j->
   (∃d q,SetTable.probe.go t hashAt h f p'=some (.empty (adv t d p).j q)/\t.slot (adv t d p).j=.empty/\∀d',d'<d->Pss t hashAt h (adv t d' p).j) \/
   (∃d i q,d<m/\SetTable.probe.go t hashAt h f p'=some (.candidate (adv t d p).j i { adv t (d+1) p with dummy:=q })/\t.slot (adv t d p).j=.live i/\∀d',d'<d->Pss t hashAt h (adv t d' p).j):=fun p' z m' em ep ps=>by
   subst em ep
   have st:∀d,adv t d { t.advance p with dummy:=z }={ adv t (d+1) p with dummy:=z }:=fun d=>zFr t z d _
   rcases zKv (hashAt:=hashAt) (h:=h) f m' { t.advance p with dummy:=z } (by nofun) (by rw[st];exact hm)with⟨d,q,a1,a2,a3⟩|⟨d,i,q,a0,a1,a2,a3⟩
   ·rw[st]at a1 a2
    refine .inl ⟨d+1,q,a1,a2,fun d' hd'=>?_⟩
    cases d' with
    | zero=>exact ps
    | succ d'=>have:=a3 d' (by nofun);rw[st]at this;exact this
   ·rw[st]at a1 a2
    refine .inr ⟨d+1,i,q,by nofun,by rw[st]at a1;exact a1,a2,fun d' hd'=>?_⟩
    cases d' with
    | zero=>exact ps
    | succ d'=>have:=a3 d' (by nofun);rw[st]at this;exact this
  cases hs:t.slot p.j with
  | empty=>exact .inl ⟨0,p.dummy,rfl,hs,fun d' h=>by nofun⟩
  | dummy=>
   obtain⟨m',em⟩:=suc (by rw[hs];simp)
   refine go _ (some p.j) m' em ?_ (.inl hs)
   exact zFr t (some p.j) 1 p
  | live i=>
   obtain⟨m',em⟩:=suc (by rw[hs];simp)
   dsimp only
   by_cases c:(hashAt i == h)=true
   ·rw[xg c]
    exact .inr ⟨0,i,(t.advance p).dummy,by nofun,rfl,hs,fun d' h=>by nofun⟩
   ·rw[xh c]
    exact go _ (t.advance p).dummy m' em rfl (.inr ⟨i,hs,by simpa using c⟩)
end
end TB
namespace TU
open PySem TB EK TS
open TS (sObj Tab.ft TabP.ft gate adr nObj zAa zAl)
open DS (D)
open Classical
section
variable {prog:Program}{w:World}{A:Around}{E:Value->Shared->Prop}{s:Shared}{dp:Nat}{κ:Addr->D}{S x:Addr}{es:Array (Int × Value)}{b:Bool}
noncomputable def IsD (dp:Nat) (κ:Addr->D) (h:Heap) (S:Addr) (es:Array (Int × Value)) (b:Bool):Prop:=∃ep t,h.get? S=some (sObj es ep t)/\TabD t es.size b/\Els dp κ h es/\ChsD t (es.toList.map (·.1))/\(es.toList.map (kv κ)).Nodup
theorem IsS.d {h:Heap}(i:IsS dp κ h S es b):IsD dp κ h S es b:=by
 obtain⟨ep,t,ho,T,he,C,nd⟩:=i
 exact⟨ep,t,ho,T.d,he,C.d T,nd⟩
noncomputable def Psd (κ:Addr->D) (t:SetTable) (es:Array (Int × Value)) (k:D) (h:Int) (j:Nat):Prop:=t.slot j=.dummy\/∃i,∃hi:i<es.size,t.slot j=.live i/\(es[i].1≠h\/kv κ es[i]≠k)
theorem zT3 {t:SetTable}{h:Heap}{M:Nat}(T:TabD t es.size b) (he:Els dp κ h es) (C:ChsD t (es.toList.map (·.1))) (hM:t.slot (adv t M (t.probeStart (hD (κ x)))).j=.empty)
  (seen:∀m',m'<M->Psd κ t es (κ x) (hD (κ x)) (adv t m' (t.probeStart (hD (κ x)))).j):κ x ∉ es.toList.map (kv κ):=by
 intro hm
 obtain⟨e,hem,ek⟩:=xA.mp hm
 obtain⟨i,hi,rfl⟩:=vM.mp hem
 have hi':i<es.size:=by simpa using hi
 obtain⟨y,ey,_,eh⟩:=he _ hem
 have ky:κ y=κ x:=by
  have:kv κ es.toList[i]=κ y:=by unfold kv;rw[ey];rfl
  rw[<- this,ek]
 rw[ky]at eh
 have hp:i<t.place.size:=by rw[T.size];exact hi'
 obtain⟨m,em,al⟩:=C (t.place[i],es.toList[i].1) (vM.mpr ⟨i,by have:=Nat.lt_min.mpr ⟨hp,hi'⟩;simpa using this,by simp⟩)
 dsimp only at em al
 rw[eh]at em al
 have pin:t.place[i]∈t.place.toList:=by simp
 rcases uW m M with z|z|z
 ·rcases seen m z with q|⟨i',hi2,q1,q2⟩
  ·rw[em]at q
   have:t.place[SetTable.below t.place t.place[i]]?=some t.place[i]:=(zCc T.up).mpr pin
   unfold SetTable.slot at q
   simp[this]at q
  ·rw[em]at q1
   have q3:=zKb q1
   obtain⟨z3,e3⟩:=x8.mp q3
   have:=zHs T.up (by simpa using z3) (by simpa using hp) (by simpa using e3)
   subst this
   rcases q2 with q2|q2
   ·exact q2 (by simpa using eh)
   ·exact q2 (by simpa using ek)
 ·subst z
  rw[em]at hM
  exact(T.e.mp hM).1 pin
 ·exact al M z hM
theorem zNt {ep:Nat}{t:SetTable}{Q:SetFound->Shared->Prop}(hdp:dp+1<=8) (hu:A.units+(dp+1)<cLine) (ho:s.heap.get? S=some (sObj es ep t)) (T:TabD t es.size b)
  (hk:EA s.heap dp (κ x) x) (he:Els dp κ s.heap es) (C:ChsD t (es.toList.map (·.1))) (h1:∀i (hi:i<es.size),kv κ es[i]=κ x->t.place[i]?≠none->Q (.there (some i)) s)
  (h2:κ x ∉ es.toList.map (kv κ)->∀j c,Q (.free j c) s):
  ∀(f m c:Nat) (st:Option SetTable.Probe),m<f->m<10*SetTable.turns t.mask->(∃z,st.getD (t.probeStart (hD (κ x)))={ adv t c (t.probeStart (hD (κ x)))with dummy:=z })->
   (∀m',m'<c->Psd κ t es (κ x) (hD (κ x)) (adv t m' (t.probeStart (hD (κ x)))).j)->
   t.slot (adv t m (adv t c (t.probeStart (hD (κ x))))).j=.empty->wpAny (model prog w) A (setSearchFrom S (.ref x) (hD (κ x)) false f st) Q E s:=by
 have fd:=fun M=>zT3 (κ:=κ) (x:=x) (M:=M) T he C
 generalize ehx:hD (κ x)=hx at fd ⊢
 have lv:∀{j i:Nat},t.slot j=.live i->i<es.size:=fun {j i} hj=>by
  obtain⟨z,_⟩:=x8.mp (zKb hj)
  rw[T.size]at z;exact z
 intro f
 induction f with
 | zero=>intro m c st hm;lia
 | succ f ih=>
  intro m c st hm hm2 hq35 seen fr
  obtain⟨zd,est⟩:=hq35
  unfold setSearchFrom
  refine xc (xJ ho rfl T.w.ft ?_)
  dsimp only
  rw[T.way]
  rw[xh (by decide)]
  unfold SetTable.probe
  rw[est]
  have st2:∀d,adv t d { adv t c (t.probeStart hx)with dummy:=zd }={ adv t (c+d) (t.probeStart hx)with dummy:=zd }:=fun d=>by rw[zAw];exact zFr t zd d _
  have more:∀d,(∀d',d'<d->Pss t (fun i=>(es[i]?.map (·.1)).getD 0) hx (adv t d' { adv t c (t.probeStart hx)with dummy:=zd }).j)->∀m',m'<c+d->Psd κ t es (κ x) hx (adv t m' (t.probeStart hx)).j:=fun d hd m' hm'=>by
   rcases vj m' c with z|z
   ·exact seen m' z
   ·obtain⟨d',rfl⟩:∃d',m'=c+d':=⟨m' - c,by nofun⟩
    have q:=hd d' (by nofun)
    rw[st2]at q
    rcases q with q|⟨i,e1,e2⟩
    ·exact .inl q
    ·have hi:=lv e1
     refine .inr ⟨i,hi,e1,.inl fun z=>?_⟩
     have e2:((es[i]?.map (·.1)).getD 0 == hx)=false:=e2
     rw[xT hi]at e2
     have:(es[i].1 == hx)=false:=e2
     rw[z]at this;simp at this
  rcases zKv (hashAt:=fun i=>(es[i]?.map (·.1)).getD 0) (h:=hx) _ m _ hm2 (by rw[st2];rw[<- zAw]at fr;exact fr)with⟨d,q,e,hj,hd⟩|⟨d,i,q,hlt,e,hj,hd⟩
  ·have e':SetTable.probe.go t (fun i=>(Option.map (fun x=>x.fst) es[i]?).getD 0) hx (10*SetTable.turns t.mask) { adv t c (t.probeStart hx)with dummy:=zd }=_:=e
   show wpAny _ _ (match SetTable.probe.go t (fun i=>(Option.map (fun x=>x.fst) es[i]?).getD 0) hx (10*SetTable.turns t.mask) { adv t c (t.probeStart hx)with dummy:=zd }with|some met=>_|_=>_) _ _ _
   rw[e']
   dsimp only
   rw[st2]at hj
   have nf:=fd (c+d) hj (more d hd)
   cases q with
   | none=>exact xf (h2 nf _ _)
   | some q=>exact xf (h2 nf _ _)
  ·have e':SetTable.probe.go t (fun i=>(Option.map (fun x=>x.fst) es[i]?).getD 0) hx (10*SetTable.turns t.mask) { adv t c (t.probeStart hx)with dummy:=zd }=_:=e
   show wpAny _ _ (match SetTable.probe.go t (fun i=>(Option.map (fun x=>x.fst) es[i]?).getD 0) hx (10*SetTable.turns t.mask) { adv t c (t.probeStart hx)with dummy:=zd }with|some met=>_|_=>_) _ _ _
   rw[e']
   dsimp only
   have hi:=lv hj
   have ei:=xT hi
   obtain⟨y,ey,hy,eyh⟩:=he es[i] (by simp)
   have e2:es[i]?=some (es[i].1,.ref y):=by rw[ei,<- ey]
   have ky:kv κ es[i]=κ y:=by unfold kv;rw[ey];rfl
   rw[e2]
   dsimp only
   refine gate (fun Q' hq=>unseen hdp hk (fun v hv=>?_) hq) ?_
   ·obtain⟨e',he',rfl⟩:=xA.mp hv
    obtain⟨b',q1,q2,_⟩:=he e' (by
     have:=Array.mem_filter.mp (u9.mp he')
     exact u9.mpr this.1)
    exact⟨b',_,q1,q2⟩
   refine xc (xC (zJg (dp+1) hy hk hu ?_))
   refine xc (xJ ho rfl T.w.ft ?_)
   dsimp only
   rw[xh (by simp)]
   have em:t.sameMemory t.moves t.mask=some true:=by unfold SetTable.sameMemory;simp
   rw[em]
   dsimp only
   rw[xg rfl,hj]
   dsimp only
   rw[e2]
   dsimp only
   refine xc (wpAny_isSame_ref_self ?_)
   rw[xg rfl]
   refine xc (xf ?_)
   dsimp only
   by_cases cc:κ y=κ x
   ·rw[xB cc,xg rfl]
    exact xf (h1 i hi (ky.trans cc) (by rw[zKb hj];simp))
   ·rw[xy cc]
    rw[xh (by decide)]
    rw[st2]at hj
    refine ih (m-(d+1)) (c+(d+1)) _ (by nofun) (by nofun) ⟨q,by rw[st2];rfl⟩ ?_ (by rw[<- zAw]at fr ⊢;rw[show c+(d+1)+(m-(d+1))=c+m by nofun];exact fr)
    intro m' hm'
    rcases vj m' (c+d)with z|z
    ·exact more d hd m' z
    ·have:m'=c+d:=by nofun
     subst this
     exact .inr ⟨i,hi,hj,.inr (by rw[ky];exact cc)⟩
theorem zWp {Q:Option Nat->Shared->Prop}(hdp:dp+1<=8) (hu:A.units+(dp+1)<cLine) (hS:IsD dp κ s.heap S es b) (hk:EA s.heap dp (κ x) x)
  (h1:∀i (hi:i<es.size),kv κ es[i]=κ x->Q (some i) s) (h2:κ x ∉ es.toList.map (kv κ)->Q none s):wpAny (model prog w) A (setFind S (.ref x) (hD (κ x))) Q E s:=by
 obtain⟨ep,t,ho,T,he,C,nd⟩:=hS
 unfold setFind setFindIn
 refine xc (xJ ho rfl T.w.ft ?_)
 dsimp only
 have eb:byScan (.ref x) es=false:=by unfold byScan;rfl
 rw[eb]
 rw[xh (by decide)]
 obtain⟨m,hm,fr⟩:=T.start (hD (κ x))
 unfold setSearch
 exact xc (zNt hdp hu ho T hk he C (fun i hi e _=>xf (h1 i hi e)) (fun nf j c=>xf (h2 nf)) 100000 m 0 none (vS hm T.turns) hm ⟨none,rfl⟩ (fun m' h=>by nofun) fr)
end
end TU
namespace TU
open PySem TB EK TS
open TS (sObj Tab.ft TabP.ft gate adr nObj zAa zAl ordW zA6 zA8)
open DS (D)
open Classical
noncomputable abbrev Kps (h h':Heap):Prop:=∀c o,h.get? c=some o->h'.get? c=some o
section
variable {prog:Program}{w:World}{A:Around}{E:Value->Shared->Prop}{s:Shared}{dp:Nat}{κ:Addr->D}{S x:Addr}{es:Array (Int × Value)}{b:Bool}
theorem Els.kp {h h':Heap}(he:Els dp κ h es) (k:Kps h h'):Els dp κ h' es:=fun e hm=>by
 obtain⟨b,e1,q,e2⟩:=he e hm
 exact⟨b,e1,q.kept fun c o ec _=>k c o ec,e2⟩
theorem IsS.kp {h h':Heap}(i:IsS dp κ h S es b) (k:Kps h h'):IsS dp κ h' S es b:=by
 obtain⟨ep,t,ho,T,he,C,nd⟩:=i
 exact⟨ep,t,k _ _ ho,T,he.kp k,C,nd⟩
theorem IsD.wk {h:Heap}(i:IsD dp κ h S es b):IsW dp κ h S es b:=by
 obtain⟨ep,t,ho,T,he,_,nd⟩:=i
 exact⟨ep,t,ho,T.w,he,nd⟩
theorem zVp {order:Array Nat}(po:order.toList.Perm (List.range es.size)):(order.filterMap (es[·]?)).toList.Perm es.toList/\(order.filterMap (es[·]?)).size=es.size/\(order.filterMap (es[·]?)).toList.map (·.1)=order.toList.map fun k=>(es.map (·.1)).toList.getD k 0:=by
 have pe:(order.filterMap (es[·]?)).toList.Perm es.toList:=by
  rw[yi]
  refine(po.filterMap _).trans ?_
  rw[filterMap_getElem?_range es]
 refine⟨pe,by rw[<- xW,pe.length_eq,xW],?_⟩
 rw[yi]
 have al:∀k∈order.toList,k<es.size:=fun k hk=>vB.mp (po.mem_iff.mp hk)
 clear po pe
 generalize order.toList=l at al
 induction l with
 | nil=>rfl
 | cons k l ih=>
  have hk:=al k (.head _)
  rw[vY,xT hk]
  simp only[xx]
  rw[ih fun k hk=>al k (.tail _ hk)]
  congr 1
  simp[hk]
theorem zLo {M fing moves:Nat}{led:Bool}(hM:Msk M) (hr:es.size*5<M*3):∃t order,SetTable.laid M fing moves led true (es.map (·.1))=some (t,order)/\Tab t es.size led/\(order.filterMap (es[·]?)).toList.Perm es.toList/\(order.filterMap (es[·]?)).size=es.size/\Chs t ((order.filterMap (es[·]?)).toList.map (·.1)):=by
 obtain⟨t',order,a,T',p,C⟩:=zI6 hM (hs:=es.map (·.1)) (by simp;lia) (by simpa using hr) fing moves led
 rw[Array.size_map]at T' p
 obtain⟨p1,p2,p3⟩:=zVp p
 exact⟨t',order,a,T',p1,p2,by rw[p3];exact C⟩
theorem zI0 {wanted M ep:Nat}{t:SetTable}{Q:Unit->Shared->Prop}(hg:s.heap.get? S=some (sObj es ep t)) (ft:t.fits es.size=true) (hM:Msk M) (e1:SetTable.sizeAbove wanted=M+1) (hr:es.size*5<M*3) (pl:t.plain=true) (ld:t.led=b)
  (he:Els dp κ s.heap es) (nd:(es.toList.map (kv κ)).Nodup) (h:∀h' es2,es2.toList.Perm es.toList->Heap.SameBut S s.heap h'->(∃ep2 t2,h'.get? S=some (sObj es2 ep2 t2)/\t2.mask=M/\Tab t2 es2.size b/\Els dp κ h' es2/\Chs t2 (es2.toList.map (·.1))/\(es2.toList.map (kv κ)).Nodup)->Q () { s with heap:=h' }):wpAny (model prog w) A (setRelay S wanted) Q E s:=by
 have hm:M<=4095:=(by decide:∀m∈[7,15,31,63,127,255,511,1023,2047,4095],m<=4095) _ hM
 unfold setRelay
 refine xc (xJ hg rfl ft ?_)
 dsimp only
 rw[xh (by rw[e1,xZ];lia)]
 obtain⟨t2,order,er,T2,pe,zz,C4⟩:=zLo (es:=es) (fing:=t.finger) (moves:=t.movedTo M) (led:=b) hM hr
 have er2:t.relaid (es.map (·.1)) wanted=some (t2,order):=by
  unfold SetTable.relaid
  rw[e1,pl,ld];exact er
 have tm:t2.mask=M:=by
  unfold SetTable.laid at er
  cases hc:SetTable.layClean M (es.map (·.1))with
  | none=>rw[hc]at er;cases er
  | some ow=>rw[hc]at er;cases er;rfl
 rw[er2]
 refine xc ?_
 show wpAny _ _ (if((order.filterMap (es[·]?)).size != es.size)=true then _ else pure (order.filterMap (es[·]?),t2)) _ _ _
 rw[xh (by simp[zz])]
 refine xf ?_
 dsimp only
 generalize order.filterMap (es[·]?)=es2 at pe zz C4 ⊢
 refine uP hg rfl ?_ (by rw[zz,xZ];lia)
 have hg2:=vL (Obj.putSet es2 t2) hg rfl
 have sb2:=vF s.heap S (Obj.putSet es2 t2)
 exact h _ es2 pe sb2 ⟨_,_,hg2,tm,by rw[zz];exact T2,Els.keeps (fun e hm=>he e (pe.mem_iff.mp hm)) hg sb2,C4,(pe.map (kv κ)).nodup_iff.mpr nd⟩
theorem zEn {ep:Nat}{t:SetTable}{others:List Addr}{fl:Option Addr}{Q:Array (Int × Value)->Shared->Prop}(ho:s.heap.get? S=some (sObj es ep t)) (T:TabW t es.size (zAa w)) (h:Q (ordW w S ep es) s):wpAny (model prog w) A (setWalkUnseen S others fl) Q E s:=by
 unfold setWalkUnseen
 refine xc (xJ ho rfl T.ft ?_)
 dsimp only
 unfold setsByText
 refine xc (xc (vW (xf ?_)))
 have c:((w.params.followText "set-order") || (t.led && t.plain) || decide (es.size<=1))=true:=by rw[T.led,T.plain];unfold zAa;cases w.params.followText "set-order" <;> rfl
 show wpAny _ _ (if((w.params.followText "set-order") || (t.led && t.plain) || decide (es.size<=1))=true then _ else _) _ _ _
 rw[xg c]
 unfold setWalk
 refine xc (xJ ho rfl T.ft ?_)
 dsimp only
 unfold setsByText
 refine xc (xc (vW (xf ?_)))
 show wpAny _ _ (if(w.params.followText "set-order")=true then _ else _) _ _ _
 unfold ordW at h
 by_cases c:w.params.followText "set-order"=true
 ·rw[xg c]
  rw[xg c]at h
  exact xc (vW (xf h))
 ·rw[xh c]
  rw[xh c]at h
  have hl:t.led=true:=by rw[T.led];simpa using c
  have e1:(!t.plain && decide (es.size > 1))=false:=by rw[T.plain];rfl
  show wpAny _ _ (if(!t.plain && decide (es.size > 1))=true then _ else _) _ _ _
  rw[e1]
  rw[xh (by decide)]
  show wpAny _ _ ((if(!t.led && decide (es.size > 1))=true then _ else pure ()) >>= _) _ _ _
  rw[hl]
  rw[xh (by simp)]
  exact xc (xf (xf h))
theorem zF6 {Q:Value->Shared->Prop}(h:Q (.ref s.heap.objs.size) { s with heap:=s.heap.push (nObj w) }):wpAny (model prog w) A (newSet (.type "set")) Q E s:=by
 unfold newSet setsByText
 refine xc (xc (vW (xf ?_)))
 dsimp only
 simp only[newObj]
 exact xc (wpAny_alloc (xf h))
theorem zFp {Q:Value->Shared->Prop}{ep:Nat}{t:SetTable}(ho:s.heap.get? S=some (sObj es ep t)) (h:Q (.type "set") s):wpAny (model prog w) A (Builtin.Frozenset.baseOf S) Q E s:=by
 unfold Builtin.Frozenset.baseOf
 refine xc (vT ⟨_,ho,rfl⟩ sub_set_self ?_)
 exact xf h
end
end TU
namespace TU
open PySem TB EK TS
open TS (sObj Tab.ft TabP.ft gate adr nObj zAa zAl ordW zA6 zA8)
open DS (D)
open Classical
section
variable {prog:Program}{w:World}{A:Around}{E:Value->Shared->Prop}{s:Shared}{dp:Nat}{κ:Addr->D}{S x r o:Addr}{es eo:Array (Int × Value)}{b:Bool}
theorem zQ2:∀n∈List.range 601,∃M∈[7,15,31,63,127,255,511,1023,2047,4095],SetTable.sizeAbove (n*2)=M+1/\n*2<=M:=by decide +kernel
theorem IsS.of_room {h:Heap}{n:Nat}(i:∃ep t,h.get? S=some (sObj es ep t)/\Tab t es.size b/\Els dp κ h es/\Chs t (es.toList.map (·.1))/\(es.toList.map (kv κ)).Nodup/\n<t.mask*3):IsS dp κ h S es b:=by
 obtain⟨ep,t,a1,a2,a3,a4,a5,_⟩:=i
 exact⟨ep,t,a1,a2,a3,a4,a5⟩
theorem zKm {n:Nat}{Q:Unit->Shared->Prop}(i:IsS dp κ s.heap r es b) (hn:es.size+n<=600)
  (h:∀h1 es2,Heap.SameBut r s.heap h1->es2.toList.Perm es.toList->(∃ep t,h1.get? r=some (sObj es2 ep t)/\Tab t es2.size b/\Els dp κ h1 es2/\Chs t (es2.toList.map (·.1))/\(es2.toList.map (kv κ)).Nodup/\(es.size+n)*5<t.mask*3)->Q () { s with heap:=h1 }):wpAny (model prog w) A (setRoomFor r n) Q E s:=by
 obtain⟨ep,t,ho,T,he,C,nd⟩:=i
 unfold setRoomFor
 refine xc (xJ ho rfl (Tab.ft T) ?_)
 dsimp only
 unfold SetTable.roomFor
 rw[T.fill,T.size]
 by_cases c:(es.size+n)*5 >= t.mask*3
 ·rw[xg c]
  dsimp only
  obtain⟨M,hM,e1,e2⟩:=zQ2 (es.size+n) (vB.mpr (by nofun))
  have:=Msk.le T.hm
  refine zI0 ho (Tab.ft T) hM e1 (by nofun) T.plain T.led he nd fun h' es2 pe sb ⟨ep2,t2,g,tm,T2,he2,C2,nd2⟩=>h h' es2 sb pe ⟨ep2,t2,g,T2,he2,C2,nd2,by rw[tm];lia⟩
 ·rw[xh c]
  exact xf (h s.heap es (.refl _ _) (.refl _) ⟨ep,t,ho,T,he,C,nd,by nofun⟩)
theorem zG2 {each:Sem Unit}{Q:Unit->Shared->Prop}(hne:r≠o) (hr:IsS dp κ s.heap r #[] b) (hi:IsS dp κ s.heap o eo b) (hn:eo.size<=600)
  (h:∀h' es',Heap.SameBut r s.heap h'->IsS dp κ h' r es' b->es'.toList.Perm eo.toList->Q () { s with heap:=h' }):wpAny (model prog w) A (setMerge r o each) Q E s:=by
 have hr0:=hr
 obtain⟨epr,tr,gr,_⟩:=hr0
 obtain⟨epo,to,ho,To,heo,Co,ndo⟩:=hi
 unfold setMerge
 rw[xh (by simpa using hne)]
 refine xc (xJ ho rfl (Tab.ft To) ?_)
 dsimp only
 by_cases ce:eo.size=0
 ·have e0:eo=#[]:=yk ce
  subst e0
  rw[xg (show(#[]:Array (Int × Value)).isEmpty=true from rfl)]
  exact xf (h s.heap #[] (.refl _ _) hr (.refl _))
 ·rw[xh (by simpa[Array.isEmpty]using ce)]
  refine xc (zKm hr (by simpa using hn) fun h1 es2 sb1 pe1 hq1=>?_)
  obtain⟨ep1,t1,g1,T1,he1,C1,nd1,rm1⟩:=hq1
  have e2:es2=#[]:=by have:=pe1.length_eq;exact yk (by simpa using this)
  subst e2
  rw[Array.size_empty,vO]at rm1
  have ho1:h1.get? o=some (sObj eo epo to):=(sb1.2 o (xw hne)).trans ho
  have heo1:Els dp κ h1 eo:=Els.keeps heo gr sb1
  refine xc (xJ g1 rfl (Tab.ft T1) ?_)
  dsimp only
  unfold SetTable.road
  rw[T1.fill]
  rw[xh (by simp)]
  by_cases cm:(t1.mask == to.mask && to.dummies.isEmpty)=true
  ·rw[xg cm]
   dsimp only
   refine uP g1 rfl ?_ (by rw[xZ];lia)
   have hg:=vL (Obj.putSet eo { to with finger:=t1.finger,led:=t1.led && to.led,moves:=t1.moves,plain:=t1.plain && to.plain }) g1 rfl
   have sb2:=vF h1 r (Obj.putSet eo { to with finger:=t1.finger,led:=t1.led && to.led,moves:=t1.moves,plain:=t1.plain && to.plain })
   refine h _ eo (sb1.trans sb2) ⟨_,_,hg,⟨To.hm,To.size,To.nod,To.up,To.room,by show(t1.plain && to.plain)=true;rw[T1.plain,To.plain];rfl,by show(t1.led && to.led)=b;rw[T1.led,To.led,Bool.and_self]⟩,Els.keeps heo1 g1 sb2,fun q hq=>(Co q hq).grow rfl fun j hj=>hj,ndo⟩ (.refl _)
  ·rw[xh cm]
   dsimp only
   obtain⟨t2,order,er,T2,pe,zz,C4⟩:=zLo (es:=eo) (fing:=t1.finger) (moves:=t1.moves) (led:=b) T1.hm rm1
   rw[T1.led,To.led,T1.plain,To.plain,Bool.and_self,Bool.and_self,er]
   refine xc ?_
   show wpAny _ _ (if((order.filterMap (eo[·]?)).size != eo.size)=true then _ else pure (order.filterMap (eo[·]?),t2)) _ _ _
   rw[xh (by simp[zz])]
   refine xf ?_
   dsimp only
   generalize order.filterMap (eo[·]?)=es2 at pe zz C4 ⊢
   refine uP g1 rfl ?_ (by rw[zz,xZ];lia)
   have hg:=vL (Obj.putSet es2 t2) g1 rfl
   have sb2:=vF h1 r (Obj.putSet es2 t2)
   exact h _ es2 (sb1.trans sb2) ⟨_,_,hg,by rw[zz];exact T2,Els.keeps (fun e hm=>heo1 e (pe.mem_iff.mp hm)) g1 sb2,C4,(pe.map (kv κ)).nodup_iff.mpr ndo⟩ pe
theorem zF2 (κ:Addr->D) (dp:Nat) (h:Heap):IsS dp κ (h.push (nObj w)) h.objs.size #[] (zAa w):=⟨0,_,xD _ rfl,zDp _,(fun e he=>by cases he),(fun q hq=>by cases hq),uK⟩
theorem zF0 {h:Heap}{o:Obj}:Kps h (h.push o):=fun _ _ e=>xm _ e
theorem zJ0 {h h1 h2:Heap}(k:Kps h h1) (hr:h.get? r=none) (sb:Heap.SameBut r h1 h2):Kps h h2:=fun c o e=>(sb.2 c fun z=>by rw[z,hr]at e;cases e).trans (k c o e)
theorem zB2 {h:Heap}:h.get? h.objs.size=none:=Heap.get?_none_of_le (xi _)
theorem zMt {Q:Value->Shared->Prop}(hi:IsS dp κ s.heap o eo (zAa w)) (hn:eo.size<=600)
  (h:∀h' es',Kps s.heap h'->IsS dp κ h' s.heap.objs.size es' (zAa w)->es'.toList.Perm eo.toList->Q (.ref s.heap.objs.size) { s with heap:=h' }):wpAny (model prog w) A (Builtin.Frozenset.copyOf o) Q E s:=by
 have hi0:=hi
 obtain⟨epo,to,ho,_⟩:=hi
 unfold Builtin.Frozenset.copyOf
 refine xc (zFp ho (xc (zF6 ?_)))
 refine xc (xf ?_)
 refine xc (zG2 (s:={ s with heap:=s.heap.push (nObj w) }) (vR (xl ho)) (zF2 κ dp s.heap) (hi0.kp zF0) hn fun h' es' sb i pe=>xf (h h' es' (zJ0 zF0 zB2 sb) i pe))
end
end TU
namespace TU
open PySem TB EK TS
open TS (sObj Tab.ft TabP.ft gate adr nObj zAa zAl ordW zA6 zA8)
open DS (D)
open Classical
section
variable {prog:Program}{w:World}{A:Around}{E:Value->Shared->Prop}{s:Shared}{dp:Nat}{κ:Addr->D}{S x r o:Addr}{es eo:Array (Int × Value)}{b:Bool}{h0:Heap}{P:Int × Value->Prop}
noncomputable abbrev ks (κ:Addr->D) (es:Array (Int × Value)):List D:=es.toList.map (kv κ)
theorem zFt {f:Int × Value->PUnit->Sem (ForInStep PUnit)}{Q:PUnit->Shared->Prop}(xs:Array (Int × Value)) (i:IsS dp κ s.heap r es b) (k:Kps h0 s.heap) (hz:es.size+xs.size<=1199)
  (turn:∀e∈xs.toList,∀(s':Shared) es',s'={ s with heap:=s'.heap }->Kps h0 s'.heap->IsS dp κ s'.heap r es' b->es'.size<1199->∀Q:ForInStep PUnit->Shared->Prop,
   (P e->∀h' es2,Kps h0 h'->IsS dp κ h' r es2 b->(es2.toList.Perm (e::es'.toList)\/(kv κ e∈ks κ es'/\es2=es'))->Q (.yield ⟨⟩) { s' with heap:=h' })->(¬ P e->Q (.yield ⟨⟩) s')->wpAny (model prog w) A (f e ⟨⟩) Q E s')
  (h:∀h' es',Kps h0 h'->IsS dp κ h' r es' b->(∀e∈es'.toList,e∈es.toList\/(e∈xs.toList/\P e))->(∀k,k∈ks κ es' <-> k∈ks κ es\/∃e∈xs.toList,P e/\kv κ e=k)->Q ⟨⟩ { s with heap:=h' }):wpAny (model prog w) A (forIn xs ⟨⟩ f) Q E s:=by
 rw[<- uM]
 refine vX f (fun rest _ s'=>s'={ s with heap:=s'.heap }/\Kps h0 s'.heap/\∃es' done,xs.toList=done++rest/\IsS dp κ s'.heap r es' b/\es'.size<=es.size+done.length/\(∀e∈es'.toList,e∈es.toList\/(e∈done/\P e))/\∀k,k∈ks κ es' <-> k∈ks κ es\/∃e∈done,P e/\kv κ e=k) _ ?_ ?_ xs.toList ⟨⟩ ⟨rfl,k,es,[],rfl,i,by simp,fun e he=>.inl he,fun k=>by simp⟩
 ·rintro e rest _ s' ⟨hs,kp,es',done,ed,i',sz,m1,m2⟩
  have ln:done.length<xs.size:=by rw[<- xW,ed];simp
  have em:e∈xs.toList:=by rw[ed];simp
  refine turn e em s' es' hs kp i' (by nofun) _ (fun p h' es2 kp2 i2 q=>?_) (fun np=>?_)
  ·refine⟨by rw[hs],kp2,es2,done++[e],by rw[ed];simp,i2,?_,?_,?_⟩
   ·rcases q with q|⟨_,rfl⟩
    ·have:=q.length_eq;simp at this ⊢;lia
    ·simp;lia
   ·intro e' he'
    rcases q with q|⟨_,rfl⟩
    ·rcases xn.mp (q.mem_iff.mp he')with rfl|he'
     ·exact .inr ⟨by simp,p⟩
     ·rcases m1 e' he' with z|⟨z,z2⟩
      ·exact .inl z
      ·exact .inr ⟨by simp[z],z2⟩
    ·rcases m1 e' he' with z|⟨z,z2⟩
     ·exact .inl z
     ·exact .inr ⟨by simp[z],z2⟩
   ·intro k
    have hk:k∈ks κ es2 <-> k=kv κ e\/k∈ks κ es':=by
     rcases q with q|⟨z,rfl⟩
     ·rw[(q.map (kv κ)).mem_iff,xx,xn]
     ·constructor
      ·exact .inr
      ·rintro(rfl|h)
       ·exact z
       ·exact h
    rw[hk,m2 k]
    constructor
    ·rintro(rfl|z|⟨e',h1,h2,h3⟩)
     ·exact .inr ⟨e,by simp,p,rfl⟩
     ·exact .inl z
     ·exact .inr ⟨e',by simp[h1],h2,h3⟩
    ·rintro(z|⟨e',h1,h2,h3⟩)
     ·exact .inr (.inl z)
     ·rcases xV.mp h1 with z|z
      ·exact .inr (.inr ⟨e',z,h2,h3⟩)
      ·rw[vk.mp z]at h3
       exact .inl h3.symm
  ·refine⟨hs,kp,es',done++[e],by rw[ed];simp,i',by simp;lia,fun e' he'=>?_,fun k=>?_⟩
   ·rcases m1 e' he' with z|⟨z,z2⟩
    ·exact .inl z
    ·exact .inr ⟨by simp[z],z2⟩
   ·rw[m2 k]
    constructor
    ·rintro(z|⟨e',h1,h2,h3⟩)
     ·exact .inl z
     ·exact .inr ⟨e',by simp[h1],h2,h3⟩
    ·rintro(z|⟨e',h1,h2,h3⟩)
     ·exact .inl z
     ·rcases xV.mp h1 with z|z
      ·exact .inr ⟨e',z,h2,h3⟩
      ·rw[vk.mp z]at h2
       exact absurd h2 np
 ·rintro _ s' ⟨hs,kp,es',done,ed,i',sz,m1,m2⟩
  rw[v9]at ed
  rw[hs]
  exact h _ es' kp i' (fun e he=>by rw[ed];exact m1 e he) (fun k=>by rw[ed];exact m2 k)
theorem zKq {h1:Heap}{e:Int × Value}{Q:Bool->Shared->Prop}(hdp:dp+1<=8) (hu:A.units+(dp+1)<cLine) (he:Els dp κ s.heap eo) (hm:e∈eo.toList) (i:IsS dp κ s.heap r es b) (hn:es.size<1199) (hr:h0.get? r=none) (k:Kps h0 s.heap)
  (h:∀c h' es2,Kps h0 h'->IsS dp κ h' r es2 b->(es2.toList.Perm (e::es.toList)\/(kv κ e∈ks κ es/\es2=es))->Q c { s with heap:=h' }):wpAny (model prog w) A (setAddHashed r e.2 e.1) Q E s:=by
 obtain⟨a,e1,q,e2⟩:=he e hm
 obtain⟨eh,ev⟩:=e
 simp only at e1 e2
 subst e1 e2
 unfold setAddHashed
 refine xC (zGs hdp hu i q (by nofun) (fun z=>?_) (fun h' es' sb i' pm=>?_) 99999)
 ·obtain⟨e',m',k'⟩:=z
  exact h false s.heap es k i (.inr ⟨xA.mpr ⟨e',m',k'⟩,rfl⟩)
 ·exact h true h' es' (zJ0 k hr sb) i' (.inl pm)
end
end TU
namespace TU
open PySem TB EK TS
open TS (sObj Tab.ft TabP.ft gate adr nObj zAa zAl ordW zA6 zA8)
open DS (D)
open Classical
section
variable {prog:Program}{w:World}{A:Around}{E:Value->Shared->Prop}{s:Shared}{dp:Nat}{κ:Addr->D}{S x r o a:Addr}{es eo ea:Array (Int × Value)}{b:Bool}{h0:Heap}{P:Int × Value->Prop}{id:String}
theorem unch {ep:Nat}{t:SetTable}{Q:Unit->Shared->Prop}(ho:s.heap.get? o=some (sObj eo ep t)) (ft:t.fits eo.size=true) (h:Q () s):wpAny (model prog w) A (Builtin.Frozenset.unchanged id o ep) Q E s:=by
 unfold Builtin.Frozenset.unchanged
 refine xc (uw ho rfl ft ?_)
 rw[xh (by simp)]
 exact xf h
theorem zBa {ep:Nat}{t:SetTable}{Q:Bool->Shared->Prop}(ho:s.heap.get? o=some (sObj eo ep t)) (h:Q true s):wpAny (model prog w) A (Builtin.Frozenset.isAnySet (.ref o)) Q E s:=by
 unfold Builtin.Frozenset.isAnySet
 refine xc (vT ⟨_,ho,rfl⟩ sub_set_self ?_)
 exact xf h
theorem size_set {ep:Nat}{t:SetTable}{Q:Nat->Shared->Prop}(ho:s.heap.get? o=some (sObj eo ep t)) (ft:t.fits eo.size=true) (h:Q eo.size s):wpAny (model prog w) A (Builtin.Frozenset.sizeOf o) Q E s:=by
 unfold Builtin.Frozenset.sizeOf
 exact xc (yg ho rfl ft (xf h))
theorem zLh {Q:Unit->Shared->Prop}(hdp:dp+1<=8) (hu:A.units+(dp+1)<cLine) (hne:r≠o) (hi0:IsS dp κ h0 o eo (zAa w)) (hr0:h0.get? r=none) (k0:Kps h0 s.heap) (hr:IsS dp κ s.heap r es (zAa w)) (hn:es.size+eo.size<=600)
  (h:∀h' es',Kps h0 h'->IsS dp κ h' r es' (zAa w)->(∀e∈es'.toList,e∈es.toList\/e∈eo.toList)->(∀k,k∈ks κ es' <-> k∈ks κ es\/k∈ks κ eo)->Q () { s with heap:=h' }):wpAny (model prog w) A (Builtin.Frozenset.merge id r o) Q E s:=by
 have hi:=hi0
 have hk:=hi0.kp k0
 obtain⟨epo,to,ho0,To,heo,Co,ndo⟩:=hi
 have ho:=k0 _ _ ho0
 unfold Builtin.Frozenset.merge
 refine xc (uw ho rfl (Tab.ft To) ?_)
 by_cases ce:es.size=0
 ·have e0:es=#[]:=yk ce
  subst e0
  refine zG2 hne hr hk (by nofun) fun h' es' sb i pe=>h h' es' (zJ0 k0 hr0 sb) i (fun e he=>.inr (pe.mem_iff.mp he)) fun k=>?_
  rw[(pe.map (kv κ)).mem_iff]
  simp
 ·unfold setMerge
  rw[xh (by simpa using hne)]
  refine xc (xJ ho rfl (Tab.ft To) ?_)
  dsimp only
  by_cases cz:eo.size=0
  ·have e0:eo=#[]:=yk cz
   subst e0
   rw[xg (show(#[]:Array (Int × Value)).isEmpty=true from rfl)]
   exact xf (h s.heap es k0 hr (fun e he=>.inl he) fun k=>by simp)
  ·rw[xh (by simpa[Array.isEmpty]using cz)]
   refine xc (zKm hr hn fun h1 es1 sb1 pe1 rm=>?_)
   have i1:=IsS.of_room rm
   obtain⟨ep1,t1,g1,T1,_,_,_,_⟩:=rm
   have k1:=zJ0 k0 hr0 sb1
   have z1:es1.size=es.size:=by have:=pe1.length_eq;simpa using this
   refine xc (xJ g1 rfl (Tab.ft T1) ?_)
   dsimp only
   unfold SetTable.road
   rw[T1.fill]
   rw[xg (by simp[z1,ce])]
   dsimp only
   refine xc (zEn (k1 _ _ ho0) To.w ?_)
   have om:∀e∈(ordW w o epo eo).toList,e∈eo.toList:=fun e he=>(zA6 w o epo eo).mem_iff.mp he
   refine xc (zFt (s:={ s with heap:=h1 }) (P:=fun _=>True) (ordW w o epo eo) i1 k1 (by rw[zA8,z1];lia) (fun e he s' es' hs kp i' sz Q' h1' _=>?_) fun h' es' kp i' m1 m2=>?_)
   ·refine xc (xC (zKq (h1:=h1) hdp hu (heo.kp kp) (om e he) i' sz hr0 kp fun c h' es2 kp2 i2 q=>?_))
    refine xc (unch (kp2 _ _ ho0) (Tab.ft To) ?_)
    refine xc (xJ (kp2 _ _ ho0) rfl (Tab.ft To) ?_)
    dsimp only
    rw[xh (by simp)]
    exact xf (h1' trivial h' es2 kp2 i2 q)
   ·refine xf (h h' es' kp i' (fun e he=>?_) fun k=>?_)
    ·rcases m1 e he with z|z
     ·exact .inl (pe1.mem_iff.mp z)
     ·exact .inr (om e z.1)
    ·rw[m2 k,(pe1.map (kv κ)).mem_iff]
     have:(∃e∈(ordW w o epo eo).toList,True/\kv κ e=k) <-> k∈ks κ eo:=by
      constructor
      ·rintro⟨e,he,_,rfl⟩;exact xA.mpr ⟨e,om e he,rfl⟩
      ·intro hk
       obtain⟨e,he,rfl⟩:=xA.mp hk
       exact⟨e,(zA6 w o epo eo).mem_iff.mpr he,trivial,rfl⟩
     rw[this]
noncomputable def Got (κ:Addr->D) (ea eo es:Array (Int × Value)) (M:D->Prop):Prop:=(∀e∈es.toList,e∈ea.toList\/e∈eo.toList)/\es.size<=ea.size+eo.size/\∀k,k∈ks κ es <-> M k
theorem zD7 (hn:(ks κ es).Nodup) (h:∀k∈ks κ es,k∈ks κ ea\/k∈ks κ eo):es.size<=ea.size+eo.size:=by
 have:∀(l m:List D),l.Nodup->(∀k∈l,k∈m)->l.length<=m.length:=by
  intro l
  induction l with
  | nil=>intro m _ _;simp
  | cons a l ih=>
   intro m nd sub
   have ha:=sub a (.head _)
   have:=ih (m.erase a) (x4.mp nd).2 fun k hk=>(List.mem_erase_of_ne (fun(z:k=a)=>(x4.mp nd).1 (by subst z;exact hk))).mpr (sub k (.tail _ hk))
   rw[List.length_erase_of_mem ha]at this
   have:=List.length_pos_of_mem ha
   simp;lia
 have:=this (ks κ es) (ks κ ea++ks κ eo) hn fun k hk=>xV.mpr (h k hk)
 simpa using this
theorem zNh {Q:Value->Shared->Prop}(hdp:dp+1<=8) (hu:A.units+(dp+1)<cLine) (hne:o≠a) (ia:IsS dp κ s.heap a ea (zAa w)) (io:IsS dp κ s.heap o eo (zAa w)) (hn:ea.size+eo.size<=600)
  (h:∀h' es',Kps s.heap h'->IsW dp κ h' s.heap.objs.size es' (zAa w)->Got κ ea eo es' (fun k=>k∈ks κ ea\/k∈ks κ eo)->Q (.ref s.heap.objs.size) { s with heap:=h' }):
  wpAny (model prog w) A (do
   let result <- Builtin.Frozenset.copyOf a
   if(Value.ref o) != .ref a then holding [result] (Builtin.Frozenset.updateFrom id (<- Builtin.Frozenset.addrOf result) (.ref o))
   return result) Q E s:=by
 have io':=io
 obtain⟨epo,to,ho,_⟩:=io'
 refine xc (zMt ia (by nofun) fun h1 es1 k1 i1 pe1=>?_)
 rw[xg (by simpa using hne)]
 have z1:es1.size=ea.size:=by have:=pe1.length_eq;simpa using this
 refine xc (xf ?_)
 refine xc (xC ?_)
 unfold Builtin.Frozenset.updateFrom
 refine xc (zBa (k1 _ _ ho) ?_)
 rw[xg rfl]
 refine xc (xf ?_)
 refine zLh (s:={ s with heap:=h1 }) hdp hu (vR (xl ho)) io zB2 k1 i1 (by nofun) fun h' es' kp i' m1 m2=>xf (h h' es' kp i'.d.wk ?_)
 have m3:∀k,k∈ks κ es' <-> k∈ks κ ea\/k∈ks κ eo:=fun k=>by rw[m2 k,(pe1.map (kv κ)).mem_iff]
 refine⟨fun e he=>(m1 e he).imp_left fun z=>pe1.mem_iff.mp z,zD7 ?_ fun k hk=>(m3 k).mp hk,m3⟩
 obtain⟨_,_,_,_,_,_,nd⟩:=i'
 exact nd
end
end TU
namespace TU
open PySem TB EK TS
open TS (sObj Tab.ft TabP.ft gate adr nObj zAa zAl ordW zA6 zA8)
open DS (D)
open Classical
section
variable {prog:Program}{w:World}{A:Around}{E:Value->Shared->Prop}{s:Shared}{dp:Nat}{κ:Addr->D}{S x r o a:Addr}{es eo ea:Array (Int × Value)}{b:Bool}{h0:Heap}{P:Int × Value->Prop}{id:String}
theorem zNb {e:Int × Value}{Q:Option Nat->Shared->Prop}(hdp:dp+1<=8) (hu:A.units+(dp+1)<cLine) (he:Els dp κ s.heap ea) (hm:e∈ea.toList) (i:IsD dp κ s.heap o eo b)
  (h1:∀j (hj:j<eo.size),kv κ eo[j]=kv κ e->Q (some j) s) (h2:kv κ e ∉ ks κ eo->Q none s):wpAny (model prog w) A (setFind o e.2 e.1) Q E s:=by
 obtain⟨c,e1,q,e2⟩:=he e hm
 obtain⟨eh,ev⟩:=e
 simp only at e1 e2
 subst e1 e2
 exact zWp hdp hu i q h1 h2
theorem zWi {j:Nat}(hj:j<eo.size) {k:D}(e:kv κ eo[j]=k):k∈ks κ eo:=xA.mpr ⟨eo[j],by simp,e⟩
theorem zEf {Q:Unit->Shared->Prop}{epa:Nat}{ta:SetTable}{others:List Addr}(hdp:dp+1<=8) (hu:A.units+(dp+1)<cLine) (ia:IsS dp κ h0 a ea (zAa w)) (ga:h0.get? a=some (sObj ea epa ta)) (Ta:Tab ta ea.size (zAa w)) (io:IsS dp κ h0 o eo (zAa w)) (k0:Kps h0 s.heap) (hr0:h0.get? r=none) (hr:IsS dp κ s.heap r #[] (zAa w)) (hn:ea.size<=600)
  (h:∀h' es',Kps h0 h'->IsW dp κ h' r es' (zAa w)->(∀e∈es'.toList,e∈ea.toList)->(ks κ es').Nodup->(∀k,k∈ks κ es' <-> k∈ks κ ea/\k∈ks κ eo)->Q () { s with heap:=h' }):
  wpAny (model prog w) A (do
   let r1 <- setWalkUnseen a others (some r)
   forIn r1 PUnit.unit fun e _=>do
    holding [e.2] do
     if(<- setFind o e.2 e.1).isSome then
      let _ <- setAddHashed r e.2 e.1
    Builtin.Frozenset.unchanged id a epa
    pure (.yield PUnit.unit)
   pure ()) Q E s:=by
 obtain⟨_,_,_,_,hea,_,_⟩:=ia
 have om:∀e∈(ordW w a epa ea).toList,e∈ea.toList:=fun e he=>(zA6 w a epa ea).mem_iff.mp he
 refine xc (zEn (k0 _ _ ga) Ta.w ?_)
 refine xc (zFt (P:=fun e=>kv κ e∈ks κ eo) (ordW w a epa ea) hr k0 (by rw[zA8];simp;lia) (fun e he s' es' hs kp i' sz Q' h1' h2'=>?_) fun h' es' kp i' m1 m2=>?_)
 ·refine xc (xC (xc (zNb hdp hu (hea.kp kp) (om e he) (io.kp kp).d (fun j hj ej=>?_) fun nf=>?_)))
  ·rw[xg (show(some j).isSome=true from rfl)]
   refine xc (zKq (h1:=h0) hdp hu (hea.kp kp) (om e he) i' sz hr0 kp fun c h' es2 kp2 i2 q=>xf ?_)
   exact xc (unch (kp2 _ _ ga) (Tab.ft Ta) (xf (h1' (zWi hj ej) h' es2 kp2 i2 q)))
  ·rw[xh (show ¬ (none:Option Nat).isSome=true from by simp)]
   exact xf (xc (unch (kp _ _ ga) (Tab.ft Ta) (xf (h2' nf))))
 ·have nd:(ks κ es').Nodup:=by obtain⟨_,_,_,_,_,_,nd⟩:=i';exact nd
  refine xf (h h' es' kp i'.d.wk (fun e he=>?_) nd fun k=>?_)
  ·rcases m1 e he with z|z
   ·simp at z
   ·exact om e z.1
  ·rw[m2 k]
   constructor
   ·rintro(z|⟨e,he,p,rfl⟩)
    ·simp at z
    ·exact⟨xA.mpr ⟨e,om e he,rfl⟩,p⟩
   ·rintro⟨z1,z2⟩
    obtain⟨e,he,rfl⟩:=xA.mp z1
    exact .inr ⟨e,(zA6 w a epa ea).mem_iff.mpr he,z2,rfl⟩
theorem zP2 {Q:Value->Shared->Prop}(hdp:dp+1<=8) (hu:A.units+(dp+1)<cLine) (hne:o≠a) (ia:IsS dp κ s.heap a ea (zAa w)) (io:IsS dp κ s.heap o eo (zAa w)) (hn:ea.size+eo.size<=600)
  (h:∀h' es',Kps s.heap h'->IsW dp κ h' s.heap.objs.size es' (zAa w)->Got κ ea eo es' (fun k=>k∈ks κ ea/\k∈ks κ eo)->Q (.ref s.heap.objs.size) { s with heap:=h' }):
  wpAny (model prog w) A (Builtin.Frozenset.intersection id a (.ref o)) Q E s:=by
 have ia':=ia
 have io':=io
 obtain⟨epa,ta,ga,Ta,_⟩:=ia'
 obtain⟨epo,to,go,To,_⟩:=io'
 unfold Builtin.Frozenset.intersection
 rw[xh (by simpa using hne)]
 refine xc (zFp ga (xc (zF6 ?_)))
 refine xc (xf ?_)
 have kp:Kps s.heap (s.heap.push (nObj w)):=zF0
 have go1:=kp _ _ go
 have ga1:=kp _ _ ga
 refine xc (xC ?_)
 refine xc (zBa go1 ?_)
 rw[xg rfl]
 refine xc (xf ?_)
 refine xc (size_set go1 (Tab.ft To) ?_)
 refine xc (size_set ga1 (Tab.ft Ta) ?_)
 by_cases c:eo.size > ea.size
 ·simp only[xg c]
  refine xc (uw ga1 rfl (Tab.ft Ta) ?_)
  refine zEf (s:={ s with heap:=s.heap.push (nObj w) }) hdp hu ia ga Ta io kp zB2 (zF2 κ dp s.heap) (by nofun) fun h' es' k' i' m1 nd m2=>xf (h h' es' k' i' ⟨fun e he=>.inl (m1 e he),zD7 nd fun k hk=>.inl ((m2 k).mp hk).1,m2⟩)
 ·simp only[xh c]
  refine xc (uw go1 rfl (Tab.ft To) ?_)
  have m3:=fun(es':Array (Int × Value)) (m2:∀k,k∈ks κ es' <-> k∈ks κ eo/\k∈ks κ ea) k=>(m2 k).trans And.comm
  refine zEf (s:={ s with heap:=s.heap.push (nObj w) }) hdp hu io go To ia kp zB2 (zF2 κ dp s.heap) (by nofun) fun h' es' k' i' m1 nd m2=>xf (h h' es' k' i' ⟨fun e he=>.inr (m1 e he),zD7 nd fun k hk=>.inr ((m2 k).mp hk).1,m3 es' m2⟩)
end
end TU
namespace TU
open PySem TB EK TS
open TS (sObj Tab.ft TabP.ft gate adr nObj zAa zAl ordW zA6 zA8)
open DS (D)
open Classical
section
variable {prog:Program}{w:World}{A:Around}{E:Value->Shared->Prop}{s:Shared}{dp:Nat}{κ:Addr->D}{S x r o a:Addr}{es eo ea:Array (Int × Value)}{b:Bool}{h0:Heap}{P:Int × Value->Prop}{id:String}
theorem disc {e:Int × Value}{Q:Bool->Shared->Prop}(hdp:dp+1<=8) (hu:A.units+(dp+1)<cLine) (he:Els dp κ s.heap eo) (hm:e∈eo.toList) (i:IsD dp κ s.heap r es b) (hz:es.size<=600) (hr:h0.get? r=none) (k:Kps h0 s.heap)
  (h:∀c h' es2,Kps h0 h'->IsD dp κ h' r es2 b->(∀e'∈es2.toList,e'∈es.toList)->es2.size<=es.size->(∀k,k∈ks κ es2 <-> k∈ks κ es/\k≠kv κ e)->Q c { s with heap:=h' }):wpAny (model prog w) A (setDiscardHashed r e.2 e.1) Q E s:=by
 unfold setDiscardHashed
 refine xc (zNb hdp hu he hm i (fun j hj ej=>?_) fun nf=>?_)
 ·obtain⟨ep,t,ho,T,hes,C,nd⟩:=i
  dsimp only
  refine xc (xJ ho rfl T.w.ft ?_)
  dsimp only
  have hp:j<t.place.size:=by rw[T.size];exact hj
  have ep':t.place[j]?=some t.place[j]:=xT hp
  have sz:=zIg es j hj
  have el:=zBz es j
  generalize SetTable.eraseAt es j=es2 at sz el ⊢
  refine xc (uP ho rfl ?_ (by rw[sz,xZ];lia))
  have hg:=vL (Obj.putSet es2 (t.drop j)) ho rfl
  have sb:=vF s.heap r (Obj.putSet es2 (t.drop j))
  have sub:∀e'∈es2.toList,e'∈es.toList:=fun e' h'=>by rw[el]at h';exact(List.eraseIdx_sublist _ _).subset h'
  have pm:=zFh es.toList j (by simpa using hj)
  rw[<- el]at pm
  have nd2:=(pm.map (kv κ)).nodup_iff.mpr nd
  rw[xx]at nd2
  have ek:kv κ es.toList[j]=kv κ e:=by simpa using ej
  rw[ek]at nd2
  have nd3:=x4.mp nd2
  refine xc (wpAny_point (xf (h true _ es2 (zJ0 k hr sb) ⟨_,_,hg,by rw[sz];exact T.drop ep',Els.keeps (fun e' h'=>hes e' (sub e' h')) ho sb,?_,nd3.2⟩ sub (by nofun) fun k'=>?_)))
  ·have:es2.toList.map (·.1)=(es.toList.map (·.1)).eraseIdx j:=by rw[el,yo,yo,vQ,List.map_take,List.map_drop]
   rw[this]
   exact C.drop T ep'
  ·have:=(pm.map (kv κ)).mem_iff (a:=k')
   rw[xx,xn,ek]at this
   rw[<- this]
   constructor
   ·intro z
    exact⟨.inr z,fun q=>nd3.1 (q ▸ z)⟩
   ·rintro⟨z|z,n⟩
    ·exact absurd z n
    ·exact z
 ·dsimp only
  refine xf (h false s.heap es k i (fun e' h'=>h') (xi _) fun k'=>?_)
  constructor
  ·intro z
   exact⟨z,fun q=>nf (q ▸ z)⟩
  ·exact fun z=>z.1
theorem zMh {f:Int × Value->PUnit->Sem (ForInStep PUnit)}{Q:PUnit->Shared->Prop}(xs:Array (Int × Value)) (i:IsD dp κ s.heap r es b) (k:Kps h0 s.heap) (hz:es.size<=600)
  (turn:∀e∈xs.toList,∀(s':Shared) es',s'={ s with heap:=s'.heap }->Kps h0 s'.heap->IsD dp κ s'.heap r es' b->es'.size<=600->∀Q:ForInStep PUnit->Shared->Prop,
   (∀h' es2,Kps h0 h'->IsD dp κ h' r es2 b->(∀e'∈es2.toList,e'∈es'.toList)->es2.size<=es'.size->(∀k,k∈ks κ es2 <-> k∈ks κ es'/\k≠kv κ e)->Q (.yield ⟨⟩) { s' with heap:=h' })->wpAny (model prog w) A (f e ⟨⟩) Q E s')
  (h:∀h' es',Kps h0 h'->IsD dp κ h' r es' b->(∀e∈es'.toList,e∈es.toList)->es'.size<=es.size->(∀k,k∈ks κ es' <-> k∈ks κ es/\k ∉ ks κ xs)->Q ⟨⟩ { s with heap:=h' }):wpAny (model prog w) A (forIn xs ⟨⟩ f) Q E s:=by
 rw[<- uM]
 refine vX f (fun rest _ s'=>s'={ s with heap:=s'.heap }/\Kps h0 s'.heap/\∃es' done,xs.toList=done++rest/\IsD dp κ s'.heap r es' b/\es'.size<=es.size/\(∀e∈es'.toList,e∈es.toList)/\∀k,k∈ks κ es' <-> k∈ks κ es/\k ∉ done.map (kv κ)) _ ?_ ?_ xs.toList ⟨⟩ ⟨rfl,k,es,[],rfl,i,xi _,fun e he=>he,fun k=>by simp⟩
 ·rintro e rest _ s' ⟨hs,kp,es',done,ed,i',sz,m1,m2⟩
  have em:e∈xs.toList:=by rw[ed];simp
  refine turn e em s' es' hs kp i' (by nofun) _ fun h' es2 kp2 i2 sub z2 q=>⟨by rw[hs],kp2,es2,done++[e],by rw[ed];simp,i2,by nofun,fun e' he'=>m1 e' (sub e' he'),fun k=>?_⟩
  rw[q k,m2 k,vQ,xV]
  simp only[xx,vH,vk,not_or,and_assoc]
 ·rintro _ s' ⟨hs,kp,es',done,ed,i',sz,m1,m2⟩
  rw[v9]at ed
  rw[hs]
  exact h _ es' kp i' m1 sz (fun k=>by rw[m2 k];show _ <-> k∈ks κ es/\k ∉ xs.toList.map (kv κ);rw[ed])
theorem tidy {Q:Unit->Shared->Prop}(i:IsD dp κ s.heap r es b) (hz:es.size<=300) (hr:h0.get? r=none) (k:Kps h0 s.heap)
  (h:∀h' es2,Kps h0 h'->IsW dp κ h' r es2 b->es2.toList.Perm es.toList->Q () { s with heap:=h' }):wpAny (model prog w) A (setTidy r) Q E s:=by
 have i0:=i
 obtain⟨ep,t,ho,T,he,C,nd⟩:=i
 unfold setTidy
 refine xc (xJ ho rfl T.w.ft ?_)
 dsimp only
 by_cases c:t.tooManyDummies=true
 ·rw[xg c]
  obtain⟨M,hM,e1,e2⟩:=zQ2 (es.size*2) (vB.mpr (by nofun))
  have eg:SetTable.grown es.size=es.size*2*2:=by unfold SetTable.grown;rw[xh (by nofun)];lia
  have:=Msk.le hM
  exact zI0 ho T.w.ft hM (by rw[eg];exact e1) (by nofun) T.plain T.led he nd fun h' es2 pe sb hz3=>by obtain⟨ep2,t2,g,_,T2,he2,C2,nd2⟩:=hz3;exact h h' es2 (zJ0 k hr sb) ⟨ep2,t2,g,T2.w,he2,nd2⟩ pe
 ·rw[xh c]
  exact xf (h s.heap es k i0.wk (.refl _))
theorem zTl {Q:Value->Shared->Prop}(hdp:dp+1<=8) (hu:A.units+(dp+1)<cLine) (hne:o≠a) (ia:IsS dp κ s.heap a ea (zAa w)) (io:IsS dp κ s.heap o eo (zAa w)) (hn:ea.size+eo.size<=300)
  (h:∀h' es',Kps s.heap h'->IsW dp κ h' s.heap.objs.size es' (zAa w)->Got κ ea eo es' (fun k=>k∈ks κ ea/\k ∉ ks κ eo)->Q (.ref s.heap.objs.size) { s with heap:=h' }):
  wpAny (model prog w) A (Builtin.Frozenset.difference id a (.ref o)) Q E s:=by
 have ia':=ia
 have io':=io
 obtain⟨epa,ta,ga,Ta,hea,_,_⟩:=ia'
 obtain⟨epo,to,go,To,heo,_,_⟩:=io'
 unfold Builtin.Frozenset.difference
 refine xc (zBa go ?_)
 rw[xh (by simp)]
 refine xc (xf ?_)
 rw[xh (by simp)]
 rw[xg rfl]
 refine xc (size_set go (Tab.ft To) ?_)
 refine xc (size_set ga (Tab.ft Ta) ?_)
 by_cases c:ea.size / 4 > eo.size
 ·rw[xg c]
  refine xc (xX ?_)
  refine xc (zMt ia (by nofun) fun h1 es1 k1 i1 pe1=>?_)
  have z1:es1.size=ea.size:=by have:=pe1.length_eq;simpa using this
  refine xc (xf ?_)
  refine xc (xC ?_)
  unfold Builtin.Frozenset.differenceUpdate
  have hro:=xl go
  rw[xh (by simp;lia)]
  refine xc (zBa (k1 _ _ go) ?_)
  rw[xg rfl]
  have i2:=i1
  obtain⟨ep1,t1,g1,T1,_⟩:=i2
  refine xc (xf ?_)
  refine xc (size_set (k1 _ _ go) (Tab.ft To) ?_)
  refine xc (size_set g1 (Tab.ft T1) ?_)
  dsimp only
  rw[xh (by rw[z1];lia)]
  refine xc (uw (k1 _ _ go) rfl (Tab.ft To) ?_)
  refine xc (xC ?_)
  refine xc (zEn (k1 _ _ go) To.w ?_)
  have om:∀e∈(ordW w o epo eo).toList,e∈eo.toList:=fun e he=>(zA6 w o epo eo).mem_iff.mp he
  refine xc (zMh (s:={ s with heap:=h1 }) (h0:=s.heap) (ordW w o epo eo) i1.d k1 (by nofun) (fun e he s' es' hs kp i' sz Q' hq=>?_) fun h' es' kp i' m1 sz m2=>?_)
  ·refine xc (xC (disc hdp hu (heo.kp kp) (om e he) i' sz zB2 kp fun c h' es2 kp2 i3 sub z3 q=>?_))
   exact xc (unch (kp2 _ _ go) (Tab.ft To) (xf (hq h' es2 kp2 i3 sub z3 q)))
  ·refine xf (tidy (s:={ s with heap:=h' }) i' (by nofun) zB2 kp fun h2 es2 kp2 i3 pe=>xf (h h2 es2 kp2 i3 ⟨fun e he=>.inl (pe1.mem_iff.mp (m1 e (pe.mem_iff.mp he))),?_,fun k=>?_⟩))
   ·have:=pe.length_eq;simp at this;lia
   ·rw[(pe.map (kv κ)).mem_iff,m2 k,(pe1.map (kv κ)).mem_iff,((zA6 w o epo eo).map (kv κ)).mem_iff]
 ·rw[xh c]
  refine xc (zFp ga (xc (zF6 ?_)))
  refine xc (xf ?_)
  have kp:Kps s.heap (s.heap.push (nObj w)):=zF0
  refine xc (uw (kp _ _ ga) rfl (Tab.ft Ta) ?_)
  refine xc (xC ?_)
  rw[xg rfl]
  refine xc (zEn (kp _ _ ga) Ta.w ?_)
  have om:∀e∈(ordW w a epa ea).toList,e∈ea.toList:=fun e he=>(zA6 w a epa ea).mem_iff.mp he
  refine xc (zFt (s:={ s with heap:=s.heap.push (nObj w) }) (h0:=s.heap) (P:=fun e=>kv κ e ∉ ks κ eo) (ordW w a epa ea) (zF2 κ dp s.heap) kp (by rw[zA8];simp;lia) (fun e he s' es' hs kp i' sz Q' h1' h2'=>?_) fun h' es' kp i' m1 m2=>?_)
  ·refine xc (xC ?_)
   dsimp only
   rw[xg rfl]
   refine xc (zNb hdp hu (hea.kp kp) (om e he) (io.kp kp).d (fun j hj ej=>?_) fun nf=>?_)
   ·refine xc (xf ?_)
    rw[xh (by simp)]
    exact xf (xc (unch (kp _ _ ga) (Tab.ft Ta) (xf (h2' fun n=>n (zWi hj ej)))))
   ·refine xc (xf ?_)
    rw[xg (by simp)]
    refine xc (zKq (h1:=s.heap) hdp hu (hea.kp kp) (om e he) i' sz zB2 kp fun c h' es2 kp2 i2 q=>xf ?_)
    exact xc (unch (kp2 _ _ ga) (Tab.ft Ta) (xf (h1' nf h' es2 kp2 i2 q)))
  ·have nd:(ks κ es').Nodup:=by obtain⟨_,_,_,_,_,_,nd⟩:=i';exact nd
   have m3:∀k,k∈ks κ es' <-> k∈ks κ ea/\k ∉ ks κ eo:=fun k=>by
    rw[m2 k]
    constructor
    ·rintro(z|⟨e,he,p,rfl⟩)
     ·simp at z
     ·exact⟨xA.mpr ⟨e,om e he,rfl⟩,p⟩
    ·rintro⟨z1,z2⟩
     obtain⟨e,he,rfl⟩:=xA.mp z1
     exact .inr ⟨e,(zA6 w a epa ea).mem_iff.mpr he,z2,rfl⟩
   refine xf (xf (h h' es' kp i'.d.wk ⟨fun e he=>?_,zD7 nd fun k hk=>.inl ((m3 k).mp hk).1,m3⟩))
   rcases m1 e he with z|z
   ·simp at z
   ·exact .inl (om e z.1)
end
end TU
namespace TU
open PySem TB EK TS
open TS (sObj Tab.ft TabP.ft gate adr nObj zAa zAl ordW zA6 zA8)
open DS (D)
open Classical
theorem zYq:entryFor table "set.__or__"=some Builtin.«frozenset.__or__»:=entryFor_alias (id':="frozenset.__or__") (by kernel_rfl) rfl (by decide +kernel) (by kernel_rfl)
theorem zWw:entryFor table "set.__and__"=some Builtin.«frozenset.__and__»:=entryFor_alias (id':="frozenset.__and__") (by kernel_rfl) rfl (by decide +kernel) (by kernel_rfl)
theorem zWv:entryFor table "set.__sub__"=some Builtin.«frozenset.__sub__»:=entryFor_alias (id':="frozenset.__sub__") (by kernel_rfl) rfl (by decide +kernel) (by kernel_rfl)
inductive SOp where
 | or|and|sub
noncomputable def SOp.op:SOp->Operator
 | .or=>.BitOr
 | .and=>.BitAnd
 | .sub=>.Sub
noncomputable def SOp.M (f:SOp) (p q:Prop):Prop:=match f with
 | .or=>p\/q
 | .and=>p/\q
 | .sub=>p/\¬ q
section
variable {prog:Program}{w:World}{A:Around}{E:Value->Shared->Prop}{s:Shared}{dp:Nat}{κ:Addr->D}{o a:Addr}{eo ea:Array (Int × Value)}
theorem zUq (f:SOp) {Q:Value->Shared->Prop}(hdp:dp+1<=6) (hu:A.units+20<cLine) (hne:o≠a) (ia:IsS dp κ s.heap a ea (zAa w)) (io:IsS dp κ s.heap o eo (zAa w)) (hn:ea.size+eo.size<=300)
  (h:∀h' es',Kps s.heap h'->IsW dp κ h' s.heap.objs.size es' (zAa w)->Got κ ea eo es' (fun k=>f.M (k∈ks κ ea) (k∈ks κ eo))->Q (.ref s.heap.objs.size) { s with heap:=h' }):
  wpAny (model prog w) A (binaryOp f.op (.ref a) (.ref o)) Q E s:=by
 have ia':=ia
 have io':=io
 obtain⟨epa,ta,ga,_⟩:=ia'
 obtain⟨epo,to,go,_⟩:=io'
 have ha:s.TypeIs (.ref a) "set":=⟨_,ga,rfl⟩
 have ho:s.TypeIs (.ref o) "set":=⟨_,go,rfl⟩
 have hu2:A.in1.units+(dp+1)<cLine:=by show A.units+1+(dp+1)<cLine;lia
 cases f with
 | or=>
  refine wpAny_binaryOp_same (T:="set") ha ho F.fills_set_or F.slot_set_or (xS F.slot_set_or ha zYq ?_ (F.args_set_or_2 _ _))
  refine xc (xf ?_)
  dsimp only
  rw[xh (by decide)]
  refine xc (xc (zBa ga ?_))
  show wpAny _ _ (Builtin.Frozenset.isAnySet (Value.ref o)) _ _ _
  refine zBa go ?_
  rw[xh (by simp)]
  refine xc (xf (xc ?_))
  exact zNh (by nofun) hu2 hne ia io (by nofun) fun h' es' k i g=>xf ⟨_,rfl,by simp,h h' es' k i g⟩
 | and=>
  refine wpAny_binaryOp_same (T:="set") ha ho F.fills_set_and F.slot_set_and (xS F.slot_set_and ha zWw ?_ (F.args_set_and_2 _ _))
  refine xc (xf ?_)
  dsimp only
  rw[xh (by decide)]
  refine xc (xc (zBa ga ?_))
  show wpAny _ _ (Builtin.Frozenset.isAnySet (Value.ref o)) _ _ _
  refine zBa go ?_
  rw[xh (by simp)]
  refine xc (xf (xc ?_))
  exact zP2 (by nofun) hu2 hne ia io (by nofun) fun h' es' k i g=>xf ⟨_,rfl,by simp,h h' es' k i g⟩
 | sub=>
  refine wpAny_binaryOp_same (T:="set") ha ho F.fills_set_sub F.slot_set_sub (xS F.slot_set_sub ha zWv ?_ (F.args_set_sub_2 _ _))
  refine xc (xf ?_)
  dsimp only
  rw[xh (by decide)]
  refine xc (xc (zBa ga ?_))
  show wpAny _ _ (Builtin.Frozenset.isAnySet (Value.ref o)) _ _ _
  refine zBa go ?_
  rw[xh (by simp)]
  refine xc (xf (xc ?_))
  exact zTl (by nofun) hu2 hne ia io (by nofun) fun h' es' k i g=>xf ⟨_,rfl,by simp,h h' es' k i g⟩
end
end TU
namespace L2
open PySem PySem.Spec PyProof.Rows EK TU
open TS (sObj zAa adr ordW zA6 zA8 zGy Tab.ft)
open DS (D Store Exn Rs SR lv srt dedup)
noncomputable def soN:SOp->Nat
 | .or=>0
 | .and=>1
 | .sub=>2
theorem zKa (f:SOp) {l m:List D}{x:D}:x∈DS.soG (soN f) l m <-> f.M (x∈l) (x∈m):=by
 cases f with
 | or=>exact xV
 | and=>
  show x∈l.filter _ <-> _
  rw[uA]
  exact and_congr_right fun _=>by rw[xg (show soN .and=1 from rfl)];simp
 | sub=>
  show x∈l.filter _ <-> _
  rw[uA]
  exact and_congr_right fun _=>by rw[xh (show ¬ soN .sub=1 from by decide)];simp
section
variable {X:Cx}{K:PySem.W.Frag}{E:XE}{J:Js}{S:Store}{H:Hp}{d:D}{v:V}{pins:List (Addr × Obj)}{σ:St}{s:Shared}
theorem zFv {l:List D}(r:Rep K J H d v) (e:DS.zDf d=some l):∃a xs,v=.ref a/\(SqL K H a xs\/SqT K H a xs)/\RepL K J H l xs:=by
 cases d with
 | tup ds=>cases e;obtain⟨a,xs,rfl,t,q⟩:=r;exact⟨a,xs,rfl,.inr t.sq,q⟩
 | _=>cases e
theorem recast {dp:Nat}{κ κ':Addr->D}{h:Heap}{T:Addr}{es:Array (Int × Value)}{b:Bool}(i:IsS dp κ h T es b) (e:∀x∈es.toList,κ' (adr x.2)=κ (adr x.2)):IsS dp κ' h T es b/\ks κ' es=ks κ es:=by
 obtain⟨ep,t,ho,T',he,C,nd⟩:=i
 have ek:ks κ' es=ks κ es:=List.map_congr_left fun x hx=>e x hx
 refine⟨⟨ep,t,ho,T',fun x hx=>?_,C,by rw[show es.toList.map (kv κ')=es.toList.map (kv κ)from ek];exact nd⟩,ek⟩
 obtain⟨c,e1,q,e2⟩:=he x hx
 have ec:κ' c=κ c:=by have:=e x hx;rw[e1]at this;exact this
 exact⟨c,e1,by rw[ec];exact q,by rw[ec];exact e2⟩
theorem zG0 {dp:Nat}{κ:Addr->D}{h:Heap}{T:Addr}{es:Array (Int × Value)}{b:Bool}(i:IsS dp κ h T es b):IsS dp (fun c=>kd h (dp+1) (.ref c)) h T es b/\ks (fun c=>kd h (dp+1) (.ref c)) es=ks κ es:=by
 have i':=i
 obtain⟨_,_,_,_,he,_,_⟩:=i'
 refine recast i fun x hx=>?_
 obtain⟨c,e1,q,_⟩:=he x hx
 rw[e1]
 exact zG6 q
theorem SGood.re {κ κ':Addr->D}{es:Array (Int × Value)}{l:List D}(g:SGood K J H κ es l) (e:ks κ' es=ks κ es):SGood K J H κ' es l:=by
 refine⟨fun d=>by rw[show es.toList.map (kv κ')=es.toList.map (kv κ)from e];exact g.mem d,fun x hx=>?_⟩
 have:kv κ' x=kv κ x:=List.map_inj_left.mp e x hx
 rw[this]
 exact g.rep x hx
theorem zTr (f:SOp) {a b:Expr}{i j:Nat}{p p2 p3 pos q2 q3 pos1:Pos}(hc:X.calm=true) (hu:X.A.units+64<cLine) (ha:DE X K E a (DS.eVar i)) (hb:DE X K E b (DS.eVar j)) (hgs:Gl X "sorted") (hms:X.mg "sorted"=none) (hgt:Gl X "set") (hmt:X.mg "set"=none) (hna:nst a=true:=by rfl) (hnb:nst b=true:=by rfl) (hK:X.K=K:=by rfl):
  DF X K E (.Call (.Name "sorted" p) [.BinOp (.Call (.Name "set" p2) [a] [] q2) f.op (.Call (.Name "set" p3) [b] [] q3) pos1] [] pos) (DS.eOp (DS.soL (soN f)) (DS.eVar i) (DS.eVar j)):=by
 subst hK
 refine⟨⟨fun pins s σ H Q I hq1=>?_⟩⟩
 obtain⟨env,S,J,hA,hE,q⟩:=hq1
 -- what is asked
 obtain⟨d1,d2,l,m,e1,e2,t1,t2,hz,hset,k⟩:∃d1 d2 l m,env[i]?=some (some d1)/\env[j]?=some (some d2)/\DS.zDf d1=some l/\DS.zDf d2=some m/\(l++m).length<=300/\DS.setable (l++m) /\
   ∀J' H',AbS X.K J' S H'->Grow J H J' H'->∀p o,H' p=none->ObD X.K J' H' (.lst (srt (dedup (DS.soG (soN f) l m)))) o->Q (.ref p) (upd H' p o):=by
  unfold DS.eOp DS.eVar at q
  cases e1:env[i]? with
  | none=>rw[e1]at q;exact False.elim q
  | some o1=>
   cases o1 with
   | none=>rw[e1]at q;exact False.elim q
   | some d1=>
    rw[e1]at q
    cases e2:env[j]? with
    | none=>rw[e2]at q;exact False.elim q
    | some o2=>
     cases o2 with
     | none=>rw[e2]at q;exact False.elim q
     | some d2=>
      rw[e2]at q
      obtain⟨d,ed,k⟩:=Post.lift (S:=S) q
      unfold DS.soL at ed
      cases t1:DS.zDf d1 with
      | none=>rw[t1]at ed;cases ed
      | some l=>
       cases t2:DS.zDf d2 with
       | none=>rw[t1,t2]at ed;cases ed
       | some m=>
        rw[t1,t2]at ed
        dsimp only at ed
        split at ed
        ·rename_i hs
         cases ed
         exact⟨d1,d2,l,m,rfl,rfl,t1,t2,hs.1,hs.2,k⟩
        ·cases ed
 obtain⟨_,n,hn,hl⟩:=hset
 have hsa:starEach [a] X.env=[(false,eval a X.env)]:=zAm hna
 have hsb:starEach [b] X.env=[(false,eval b X.env)]:=zAm hnb
 have hs2:starEach [Expr.BinOp (.Call (.Name "set" p2) [a] [] q2) f.op (.Call (.Name "set" p3) [b] [] q3) pos1] X.env=[(false,eval (.BinOp (.Call (.Name "set" p2) [a] [] q2) f.op (.Call (.Name "set" p3) [b] [] q3) pos1) X.env)]:=rfl
 refine vG (zBm I hgs hms PyProof.Rows.boot_sorted (ym ?_ hs2 rfl))
 rw[hs2]
 refine(v8 ?_)
 refine wpAny_BinOp ?_
 refine vG (zBm I hgt hmt PyProof.Rows.boot_set (v3 ?_ hsa rfl))
 rw[hsa]
 refine(v8 ?_)
 refine thn (ha.h.h pins s σ H (fun x H1=>∃J1,AbS X.K J1 S H1/\Grow J H J1 H1/\Rep X.K J1 H1 d1 x) I ⟨env,S,J,hA,hE,by
  unfold DS.eVar;rw[e1];exact fun J1 H1 a1 g1 x rx=>⟨J1,a1,g1,rx⟩⟩) fun v s1 ⟨x,H1,I1,r1,J1,a1,g1,rx⟩=>?_
 refine v7 ?_
 obtain⟨aa,ys,rfl,hq1,q1⟩:=zFv rx t1
 cases r1
 have hl1:∀x∈l,lv (n+1) x:=fun x hx=>hl x (vC _ hx)
 have hl2:∀x∈m,lv (n+1) x:=fun x hx=>hl x (xI _ hx)
 rw[xG]at hz
 refine zLg I1 (I.ok.hd hc) (by nofun) hq1 q1 hn hl1 (by nofun) fun h1 tk1 ea κA iA zA gA kA=>?_
 -- the second
 have iA':=iA
 obtain⟨epA,tA,goA,TA,heA,CA,ndA⟩:=iA'
 have I2:=I1.kept (t':=tk1) kA
 have hHA:H1 s1.heap.objs.size=none:=I1.hok.fresh (xi _)
 have I3:=I2.pinned (fp:=[s1.heap.objs.size]) (fun c hc=>by rw[vk.mp hc];exact I1.fpOk (xi _) hHA) (fun c hc=>by rw[vk.mp hc];exact⟨_,goA,by rintro v z;cases z⟩)
 refine vG (zBm I2 hgt hmt PyProof.Rows.boot_set (v3 ?_ hsb rfl))
 rw[hsb]
 refine(v8 ?_)
 refine thn (hb.h.h _ _ σ H1 (fun y H2=>∃J2,AbS X.K J2 S H2/\Grow J1 H1 J2 H2/\Rep X.K J2 H2 d2 y) I3 ⟨env,S,J1,a1,hE.grow g1,by
  unfold DS.eVar;rw[e2];exact fun J2 H2 a2 g2 y ry=>⟨J2,a2,g2,ry⟩⟩) fun v s2 ⟨y,H2,I4,r2,J2,a2,g2,ry⟩=>?_
 refine v7 ?_
 obtain⟨bb,zs,rfl,hq2,q2'⟩:=zFv ry t2
 cases r2
 have pinA:=(I4.pin (s1.heap.objs.size,_) (xI _ (xI _ (zBc (.head _) goA)))).1
 have I5:=I4.unpinned
 have gA2:SGood X.K J2 H2 κA ea l:=⟨gA.mem,fun e he=>by
  obtain⟨x,rx,rq⟩:=gA.rep e he
  exact⟨x,Rep.grow g2 _ _ rx,rq⟩⟩
 have iA2:IsS n κA s2.heap s1.heap.objs.size ea (zAa X.w):=⟨epA,tA,pinA,TA,fun e he=>by
  obtain⟨c,ec,_,eh⟩:=heA e he
  obtain⟨x,rx,rq⟩:=gA2.rep e he
  have lk:lv (n+1) (kv κA e):=hl1 _ ((gA.mem _).mp (xA.mpr ⟨e,he,rfl⟩))
  have:=zHc I5 (n+1) lk rx rq
  have ek:kv κA e=κA c:=by unfold kv;rw[ec];rfl
  rw[ek,ec]at this
  exact⟨c,ec,this,eh⟩,CA,ndA⟩
 refine zLg I5 (I.ok.hd hc) (by nofun) hq2 q2' hn hl2 (by nofun) fun h3 tk3 eb κB iB zB gB kB=>?_
 have iA3:=iA2.kp (h':=h3) kB
 obtain⟨iA4,eA⟩:=zG0 iA3
 obtain⟨iB4,eB⟩:=zG0 iB
 have gA4:=gA2.re eA
 have gB4:=gB.re eB
 generalize (fun c=>kd h3 (n+1) (Value.ref c))=κ at iA4 iB4 gA4 gB4
 have hne:s2.heap.objs.size≠s1.heap.objs.size:=vR (xl pinA)
 refine zUq (s:={ s2 with heap:=h3,toks:=tk3 }) f hn (by nofun) hne iA4 iB4 (by nofun) fun h4 es k4 i4 hq1=>?_
 obtain⟨m1,z1,m2⟩:=hq1
 refine v7 ?_
 have hsz:s2.heap.objs.size<=h3.objs.size:=by
  obtain⟨_,_,gb,_⟩:=iB
  exact xN (xl gb)
 refine zK8 (s:={ s2 with heap:=h4,toks:=tk3 }) (l:=DS.soG (soN f) l m) (K:=X.K) (J:=J2) I5 (I.ok.hd hc) (by nofun) i4 hn (fun c o e=>k4 c o (kB c o e)) rfl hsz (by nofun) ⟨fun d=>?_,fun e he=>?_⟩ (fun x hx=>?_) fun L ws hL r=>k J2 H2 a2 (g1.trans g2) L _ hL ⟨ws,rfl,r⟩
 ·rw[show(d∈es.toList.map (kv κ))=(d∈ks κ es)from rfl,m2 d,zKa f]
  have p1:d∈ks κ ea <-> d∈l:=gA4.mem d
  have p2:d∈ks κ eb <-> d∈m:=gB4.mem d
  show f.M (d∈ks κ ea) (d∈ks κ eb) <-> _
  rw[show(d∈ks κ ea)=(d∈l)from propext p1,show(d∈ks κ eb)=(d∈m)from propext p2]
 ·rcases m1 e he with z|z
  ·exact gA4.rep e z
  ·exact gB4.rep e z
 ·have:=(zKa f).mp hx
  cases f with
  | or=>
   rcases this with z|z
   ·exact hl1 x z
   ·exact hl2 x z
  | and=>exact hl1 x this.1
  | sub=>exact hl1 x this.1
theorem zXd {a b:Expr}{i j:Nat}{p p2 p3 pos q2 q3 pos1:Pos}(hc:X.calm=true) (hu:X.A.units+64<cLine) (ha:DE X K E a (DS.eVar i)) (hb:DE X K E b (DS.eVar j)) (hgs:Gl X "sorted") (hms:X.mg "sorted"=none) (hgt:Gl X "set") (hmt:X.mg "set"=none) (hna:nst a=true:=by rfl) (hnb:nst b=true:=by rfl) (hK:X.K=K:=by rfl):
  DF X K E (.Call (.Name "sorted" p) [.BinOp (.Call (.Name "set" p2) [a] [] q2) .BitOr (.Call (.Name "set" p3) [b] [] q3) pos1] [] pos) (DS.eOp (DS.soL 0) (DS.eVar i) (DS.eVar j)):=zTr .or hc hu ha hb hgs hms hgt hmt hna hnb hK
theorem zTs {a b:Expr}{i j:Nat}{p p2 p3 pos q2 q3 pos1:Pos}(hc:X.calm=true) (hu:X.A.units+64<cLine) (ha:DE X K E a (DS.eVar i)) (hb:DE X K E b (DS.eVar j)) (hgs:Gl X "sorted") (hms:X.mg "sorted"=none) (hgt:Gl X "set") (hmt:X.mg "set"=none) (hna:nst a=true:=by rfl) (hnb:nst b=true:=by rfl) (hK:X.K=K:=by rfl):
  DF X K E (.Call (.Name "sorted" p) [.BinOp (.Call (.Name "set" p2) [a] [] q2) .BitAnd (.Call (.Name "set" p3) [b] [] q3) pos1] [] pos) (DS.eOp (DS.soL 1) (DS.eVar i) (DS.eVar j)):=zTr .and hc hu ha hb hgs hms hgt hmt hna hnb hK
theorem zTq {a b:Expr}{i j:Nat}{p p2 p3 pos q2 q3 pos1:Pos}(hc:X.calm=true) (hu:X.A.units+64<cLine) (ha:DE X K E a (DS.eVar i)) (hb:DE X K E b (DS.eVar j)) (hgs:Gl X "sorted") (hms:X.mg "sorted"=none) (hgt:Gl X "set") (hmt:X.mg "set"=none) (hna:nst a=true:=by rfl) (hnb:nst b=true:=by rfl) (hK:X.K=K:=by rfl):
  DF X K E (.Call (.Name "sorted" p) [.BinOp (.Call (.Name "set" p2) [a] [] q2) .Sub (.Call (.Name "set" p3) [b] [] q3) pos1] [] pos) (DS.eOp (DS.soL 2) (DS.eVar i) (DS.eVar j)):=zTr .sub hc hu ha hb hgs hms hgt hmt hna hnb hK
theorem zX1 {e:Expr}{m:DS.EM}{p2 pos:Pos}{t:Tok}{p3 p4:Pos}(he:DE X K E e m) (hK:X.K=K:=by rfl):DE X K E (.Subscript e (.Slice none none (some (.UnaryOp .USub (.Constant (.int 1) t p3) p4)) p2) pos) (DS.eUn DS.revS m):=zXj he (zXg zK1 zQo) (fun _ _=>rfl) hK
end
end L2
namespace DS
open PySem (Str)
noncomputable section
open Classical
theorem zEd {n:Nat}:∀(S:Store),keeps n S S
 | []=>trivial
 | _::r=>⟨.inl rfl,zEd r⟩
theorem zIa {n:Nat}:∀{S S':Store},S.length=S'.length->(∀(i:Nat) (d:D),S'[i]?=some d->S[i]?=some d\/d.low n=true)->keeps n S S'
 | [],_,_,_=>trivial
 | a::r,[],e,_=>by simp at e
 | a::r,b::t,e,h=>⟨by
   rcases h 0 b rfl with q|q
   ·exact .inl (by simpa using q)
   ·exact .inr q,zIa (by simpa using e) fun i d q=>by simpa using h (i+1) d (by simpa using q)⟩
theorem zP9 {S:Store}{d:D}(h:d.low S.length=true):fin S d S=.ok d S:=by
 unfold fin
 rw[xg (zEd S),xg h,List.take_length]
theorem zWr {S S':Store}{d:D}(e:S.length=S'.length) (k:∀(i:Nat) (d:D),S'[i]?=some d->S[i]?=some d\/d.low S.length=true) (h:d.low S.length=true):fin S d S'=.ok d S':=by
 unfold fin
 rw[xg (zIa e k),xg h,e,List.take_length]
theorem atN {l:List D}{i:Int}{k:Nat}{d:D}(h:i=(k:Int)) (e:l[k]?=some d):atL l i=some d:=by
 obtain⟨hk,_⟩:=xK.mp e
 unfold atL ixN
 rw[xg (by nofun),xg (by nofun)]
 show l[i.toNat]?=some d
 rw[show i.toNat=k by nofun];exact e
theorem atL0 {d:D}{l:List D}:atL (d::l) 0=some d:=atN rfl rfl
theorem atL1 {d e:D}{l:List D}:atL (d::e::l) 1=some e:=atN rfl rfl
theorem atL2 {d e f:D}{l:List D}:atL (d::e::f::l) 2=some f:=atN rfl rfl
theorem atL3 {d e f g:D}{l:List D}:atL (d::e::f::g::l) 3=some g:=atN rfl rfl
theorem ixT {S:Store}{l:List D}{i:Int}:ixD S (.tup l) (.int i)=atL l i:=rfl
theorem ixL {S:Store}{l:List D}{i:Int}:ixD S (.lst l) (.int i)=atL l i:=rfl
theorem zLw {S:Store}{l:List D}:items S (.tup l)=some l:=rfl
theorem zLx {S:Store}{l:List D}:items S (.lst l)=some l:=rfl
theorem zOv {S:Store}{l:List D}:look S (.tup l)=some (.tup l):=rfl
theorem zOw {S:Store}{l:List D}:look S (.lst l)=some (.lst l):=rfl
theorem zOx {S:Store}{i:Int}:look S (.int i)=some (.int i):=rfl
theorem zSm {S:Store}{b:Bool}:look S (.bl b)=some (.bl b):=rfl
theorem zDj {S:Store}{a b:Int}(h:sm a/\sm b):mulD S (.int a) (.int b)=some (.int (a*b)):=xg h
end
end DS
local macro_rules | `(tactic| simp_arith [$ls,*]) => `(tactic| simp only [DS.sSeq, DS.sSet, DS.sRet, DS.zY8, DS.zCo, DS.sIf, DS.sUnp, DS.zKl, DS.sPar, DS.zKh, DS.eVar, DS.eC, DS.eOp, DS.eUn, DS.aNil, DS.zA0, DS.eTup, DS.eLst, DS.eCB, DS.zA9, DS.eSl, DS.pNo, DS.pYes, DS.asI, DS.asB, DS.tB, DS.tAnd, DS.tOr, DS.tNot, DS.tYes, DS.eAnd, DS.eOr, DS.eNot, DS.eIf, DS.Rs.bind_ok, DS.Rs.then_ok, DS.zAf, DS.zEc, DS.gName, DS.gTup, DS.gAll, DS.zLw, DS.zLx, DS.zOv, DS.zOw, DS.zOx, DS.zSm, ud, Option.map_none, yf, List.getElem?_cons_succ, List.set_cons_zero, List.set_cons_succ, xH, uQ, xx, vH, List.replicate, uH, uv, vO, Nat.reduceAdd, Nat.reduceSub, Nat.reduceLT, Nat.reduceEqDiff, xo, xQ, DS.addD, DS.subD, DS.ixT, DS.ixL, DS.atL0, DS.atL1, DS.atL2, DS.atL3, uz, Bool.not_false, vi, reduceIte, $ls,*])
namespace DS
open PySem (Str)
noncomputable section
open Classical
noncomputable abbrev zCq:D:=.str (Str.ofString "seed")
noncomputable abbrev kNum:D:=.str (Str.ofString "number")
noncomputable abbrev zDn:D:=.str (Str.ofString "left")
theorem zK7 {a b:String}(h:(Str.ofString a).cps≠(Str.ofString b).cps):D.str (Str.ofString a)≠D.str (Str.ofString b):=fun e=>h (by injection e with e;rw[e])
theorem ne1:zCq≠kNum:=zK7 (by decide +kernel)
theorem ne2:zCq≠zDn:=zK7 (by decide +kernel)
theorem ne3:kNum≠zDn:=zK7 (by decide +kernel)
noncomputable def zCt (seed num:Int) (m:Nat):D:=.dct false [zCq,kNum,zDn] [.int seed,.int num,.ref m]
structure DealAt (S:Store) (n m:Nat) (seed num:Int) (left:List Int):Prop where
 d:S[n]?=some (zCt seed num m)
 l:S[m]?=some (.lst (left.map D.int))
 ne:n≠m
 lo:0<=seed
 hi:seed<2147483647
section
variable {S:Store}{n m:Nat}{seed num:Int}{left:List Int}
theorem zH9 (h:DealAt S n m seed num left):ixD S (.ref n) zCq=some (.int seed):=by
 unfold ixD look
 simp only[h.d]
 simp only[zCt]
 rw[xg (show zCf false zCq=true from rfl),look2,xg rfl]
theorem zLt (h:DealAt S n m seed num left):ixD S (.ref n) kNum=some (.int num):=by
 unfold ixD look
 simp only[h.d]
 simp only[zCt]
 rw[xg (show zCf false kNum=true from rfl),look2,xh ne1,look2,xg rfl]
theorem zLu (h:DealAt S n m seed num left):ixD S (.ref n) zDn=some (.ref m):=by
 unfold ixD look
 simp only[h.d]
 simp only[zCt]
 rw[xg (show zCf false zDn=true from rfl),look2,xh ne2,look2,xh ne3,look2,xg rfl]
theorem zKp (h:DealAt S n m seed num left) (x:Int):putN S (.ref n) kNum (.int x)=some (S.set n (zCt seed x m)):=by
 unfold putN
 simp only[h.d]
 simp only[zCt]
 rw[xg ⟨rfl,by decide⟩]
 unfold put2
 rw[xg (by simp)]
 dsimp only
 rw[repl2,xh ne1,repl2,xg rfl,repl2,xh (xw ne3),repl2]
 all_goals simp
theorem zO2 (h:DealAt S n m seed num left) (x:Int):putN S (.ref n) zCq (.int x)=some (S.set n (zCt x num m)):=by
 unfold putN
 simp only[h.d]
 simp only[zCt]
 rw[xg ⟨rfl,by decide⟩]
 unfold put2
 rw[xg (by simp)]
 dsimp only
 rw[repl2,xg rfl,repl2,xh (xw ne1),repl2,xh (xw ne2),repl2]
 all_goals simp
theorem DealAt.lt (h:DealAt S n m seed num left):n<S.length:=(xK.mp h.d).1
theorem DealAt.ltm (h:DealAt S n m seed num left):m<S.length:=(xK.mp h.l).1
theorem DealAt.set_num (h:DealAt S n m seed num left) (x:Int):DealAt (S.set n (zCt seed x m)) n m seed x left:=⟨by rw[vq h.lt],by rw[xM h.ne];exact h.l,h.ne,h.lo,h.hi⟩
theorem DealAt.set_seed (h:DealAt S n m seed num left) (x:Int) (h1:0<=x) (h2:x<2147483647):DealAt (S.set n (zCt x num m)) n m x num left:=⟨by rw[vq h.lt],by rw[xM h.ne];exact h.l,h.ne,h1,h2⟩
theorem DealAt.set_left (h:DealAt S n m seed num left) (l:List Int):DealAt (S.set m (.lst (l.map D.int))) n m seed num l:=⟨by rw[xM (xw h.ne)];exact h.d,by rw[vq h.ltm],h.ne,h.lo,h.hi⟩
structure Only (n m:Nat) (S S':Store):Prop where
 len:S'.length=S.length
 at_:∀k,k≠n->k≠m->S'[k]?=S[k]?
theorem Only.refl:Only n m S S:=⟨rfl,fun _ _ _=>rfl⟩
theorem Only.trans {S' S'':Store}(a:Only n m S S') (b:Only n m S' S''):Only n m S S'':=⟨b.len.trans a.len,fun k h1 h2=>(b.at_ k h1 h2).trans (a.at_ k h1 h2)⟩
theorem Only.set1 (d:D):Only n m S (S.set n d):=⟨by simp,fun k h1 _=>xM (xw h1)⟩
theorem Only.set2 (d:D):Only n m S (S.set m d):=⟨by simp,fun k _ h1=>xM (xw h1)⟩
noncomputable abbrev zJs:TM:=(tAnd (tB (eOp eqI (eOp ixD (eVar 0) (eC kNum)) (eC (.int 0)))) (tB (eOp gtD (eCB lenB (zA0 (eOp ixD (eVar 0) (eC zDn)) aNil)) (eC (.int 0)))))
noncomputable abbrev zJz:SM:=(sPut putN (eVar 0) (eC kNum) (eMt "list" popM (eOp ixD (eVar 0) (eC zDn)) aNil))
theorem zG9 {S:Store}{num:Int}{left:List Int}(env:Env) (he:env[0]?=some (some (.ref n))) (h:DealAt S n m seed num left):zJs env S=.ok false S\/∃ls x,left=ls++[x]/\zJs env S=.ok true S/\zJz env S=.nx env ((S.set m (.lst (ls.map D.int))).set n (zCt seed x m)):=by
 have e0:eVar 0 env S=.ok (.ref n) S:=by unfold eVar;rw[he]
 have el:look S (.ref m)=some (.lst (left.map D.int)):=h.l
 have c1:tB (eOp eqI (eOp ixD (eVar 0) (eC kNum)) (eC (.int 0))) env S=.ok (decide (num=0)) S:=by simp only[tB,eOp,eC,e0,Rs.bind_ok,zLt h,zAf,zT9,asB]
 have c2:tB (eOp gtD (eCB lenB (zA0 (eOp ixD (eVar 0) (eC zDn)) aNil)) (eC (.int 0))) env S=.ok (decide ((0:Int)<(left.map D.int).length)) S:=by simp only[tB,eOp,eC,eCB,zA0,aNil,e0,Rs.bind_ok,zLu h,zAf,lenB,el,gtD,asB]
 unfold zJs tAnd
 rw[c1,Rs.bind_ok]
 by_cases h0:num=0
 ·rw[xB h0,xg rfl,c2]
  by_cases hl:left=[]
  ·subst hl
   exact .inl rfl
  ·obtain⟨ls,x,rfl⟩:∃ls x,left=ls++[x]:=⟨left.dropLast,left.getLast hl,(u5 hl).symm⟩
   refine .inr ⟨ls,x,rfl,by rw[xB (by simp)],?_⟩
   have ty:tyD S (.ref m)=some "list":=by unfold tyD;rw[el]
   have pm:popM S (.ref m) []=some (.int x,S.set m (.lst (ls.map D.int))):=by
    unfold popM
    simp only[h.l]
    simp
   have e1:eVar 0 env (S.set m (.lst (ls.map D.int)))=.ok (.ref n) (S.set m (.lst (ls.map D.int))):=by unfold eVar;rw[he]
   simp only[zJz,sPut,eMt,eOp,aNil,eC,e0,Rs.bind_ok,Rs.then_ok,zAf,zLu h,ty,xo,pm,zEc,e1,zKp (h.set_left ls)]
 ·rw[xy h0,xh (by decide)]
  exact .inl rfl
theorem zIw (env:Env) (he:env[0]?=some (some (.ref n))):∀(k:Nat) {S:Store}{num:Int}{left:List Int},left.length=k->DealAt S n m seed num left->∃S' num' left',zAp zJs zJz (k+1) env S=.nx env S'/\DealAt S' n m seed num' left'/\Only n m S S':=by
 intro k
 induction k with
 | zero=>
  intro S num left hk h
  rcases zG9 env he h with c|⟨ls,x,rfl,_⟩
  ·exact⟨S,num,left,by rw[zAp,c,Rs.then_ok,xh (by decide)],h,.refl⟩
  ·simp at hk
 | succ k ih=>
  intro S num left hk h
  rcases zG9 env he h with c|⟨ls,x,rfl,c,b⟩
  ·exact⟨S,num,left,by rw[zAp,c,Rs.then_ok,xh (by decide)],h,.refl⟩
  ·obtain⟨S',num',left',e,hd,o⟩:=ih (by simpa using hk) ((h.set_left ls).set_num x)
   refine⟨S',num',left',?_,hd,(Only.set2 _).trans ((Only.set1 _).trans o)⟩
   rw[zAp,c,Rs.then_ok,xg rfl,b]
   exact e
noncomputable def zXu:SM:=
  (sSeq (zDi zJs zJz)
  (sSeq (sSet 2 (eOp ixD (eVar 0) (eC kNum)))
  (sSeq (sIf (tB (eOp gtD (eVar 2) (eC (.int 0)))) (sSeq (sPut putN (eVar 0) (eC kNum) (eOp zM8 (eVar 2) (eVar 1)))
  (sRet (eOp modD (eVar 2) (eVar 1)))) zCo)
  (sSeq (sSet 3 (eOp modD (eOp addD (eOp mulD (eOp ixD (eVar 0) (eC zCq)) (eC (.int 48271))) (eC (.int 7919))) (eC (.int 2147483647))))
  (sSeq (sPut putN (eVar 0) (eC zCq) (eOp modD (eOp addD (eOp mulD (eVar 3) (eC (.int 40692))) (eC (.int 104729))) (eC (.int 2147483399))))
  (sSeq (sSet 4 (eOp modD (eOp mulD (eOp ixD (eVar 0) (eC zCq)) (eOp ixD (eVar 0) (eC zCq))) (eC (.int 2147483563))))
  (sRet (eOp modD (eOp addD (eOp mulD (eOp modD (eOp mulD (eVar 3) (eVar 3)) (eC (.int 2147483629))) (eC (.int 2147483563))) (eVar 4)) (eVar 1)))))))))
theorem zCm {x:Int}(h1:0<=x) (h2:x<2147483648):sm x:=zR4 (by nofun) (by nofun)
theorem zF7 {k:Nat}(h:m<k):(zCt seed num m).low k=true:=by
 show(lowL k [zCq,kNum,zDn] && lowL k [.int seed,.int num,.ref m])=true
 simp[lowL,D.low,h]
theorem low_ints {k:Nat}:∀(l:List Int),lowL k (l.map D.int)=true
 | []=>rfl
 | x::l=>by show(true && lowL k (l.map D.int))=true;rw[low_ints l];rfl
theorem zFf {S':Store}{seed' num':Int}{left':List Int}{d:D}(h:DealAt S n m seed num left) (h':DealAt S' n m seed' num' left') (o:Only n m S S') (hd:d.low S.length=true):fin S d S'=.ok d S':=by
 refine zWr o.len.symm (fun i e he=>?_) hd
 by_cases h1:i=n
 ·subst h1;rw[h'.d]at he;cases he;exact .inr (zF7 h.ltm)
 ·by_cases h2:i=m
  ·subst h2;rw[h'.l]at he;cases he;exact .inr (low_ints left')
  ·rw[o.at_ i h1 h2]at he;exact .inl he
noncomputable def Deal (S:Store) (n m:Nat):Prop:=∃seed num left,DealAt S n m seed num left
theorem zT7 {a b:Int}(hb:0<b) (hs:sm b):zM8 S (.int a) (.int b)=some (.int (a.fdiv b)):=xg ⟨by nofun,hs⟩
theorem zBq {a b:Int}(hb:0<b):modD S (.int a) (.int b)=some (.int (a % b)):=xg hb
theorem zMf {many:Int}(hm:0<many) (hs:sm many) (h:Deal S n m):∃(r:Int) (S':Store),zAv 2 5 zXu [.ref n,.int many] S=.ok (.int r) S'/\0<=r/\r<many/\Deal S' n m/\Only n m S S':=by
 obtain⟨seed,num,left,h⟩:=h
 obtain⟨S1,num1,left1,ew,h1,o1⟩:=zIw (env:=[some (.ref n),some (.int many),none,none,none]) rfl left.length rfl h
 have ew':zDi zJs zJz [some (.ref n),some (.int many),none,none,none] S=.nx [some (.ref n),some (.int many),none,none,none] S1:=by
  rw[zKk (by rw[ew];exact fun z=>nomatch z),ew]
 unfold zAv zXu
 simp only[xH,uQ,Nat.reduceAdd,xo,xx,vH,Nat.reduceSub,List.replicate,uH,uv]
 rw[sSeq,ew']
 dsimp only
 have g:gtD S1 (.int num1) (.int 0)=some (.bl (decide (0<num1))):=rfl
 by_cases hp:0<num1
 ·have p1:=zKp h1 (num1.fdiv many)
  have h2:=h1.set_num (num1.fdiv many)
  try simp_arith [xo]
  simp only[zLt h1]
  try simp_arith [xo]
  simp only[g,xB hp]
  try simp_arith [xo]
  simp only[sPut]
  try simp_arith [xo]
  simp only[zT7 hm hs]
  try simp_arith [xo]
  simp only[p1]
  try simp_arith [xo]
  simp only[zBq hm]
  try simp_arith [xo]
  exact⟨num1 % many,_,zFf h h2 (o1.trans (.set1 _)) rfl,uu _ (by nofun),ur _ hm,⟨_,_,_,h2⟩,o1.trans (.set1 _)⟩
 ·simp_arith [xo]
  simp only[zLt h1]
  try simp_arith [xo]
  simp only[g,xy hp]
  try simp_arith [xo]
  simp only[zH9 h1]
  try simp_arith [xo]
  have s1:sm seed/\sm 48271:=⟨zCm h1.lo (by have:=h1.hi;lia),zCm (by decide) (by decide)⟩
  simp only[zDj s1]
  try simp_arith [xo]
  simp only[zBq (show(0:Int)<2147483647 by decide)]
  try simp_arith [xo]
  generalize ho:(seed*48271+7919) % 2147483647=one
  have o0:0<=one:=by rw[<- ho];exact uu _ (by decide)
  have o9:one<2147483647:=by rw[<- ho];exact ur _ (by decide)
  simp only[sPut]
  try simp_arith [xo]
  simp only[zDj (show sm one/\sm 40692 from⟨zCm o0 (by nofun),zCm (by decide) (by decide)⟩)]
  try simp_arith [xo]
  simp only[zBq (show(0:Int)<2147483399 by decide)]
  try simp_arith [xo]
  generalize hq:(one*40692+104729) % 2147483399=sd
  have s0:0<=sd:=by rw[<- hq];exact uu _ (by decide)
  have s9:sd<2147483399:=by rw[<- hq];exact ur _ (by decide)
  have p1:=zO2 h1 sd
  have h2:=h1.set_seed sd s0 (by nofun)
  simp only[p1]
  try simp_arith [xo]
  simp only[zH9 h2]
  try simp_arith [xo]
  simp only[zH9 h2]
  try simp_arith [xo]
  simp only[zDj (show sm sd/\sm sd from⟨zCm s0 (by nofun),zCm s0 (by nofun)⟩)]
  try simp_arith [xo]
  simp only[zBq (show(0:Int)<2147483563 by decide)]
  try simp_arith [xo]
  simp only[zDj (show sm one/\sm one from⟨zCm o0 (by nofun),zCm o0 (by nofun)⟩)]
  try simp_arith [xo]
  simp only[zBq (show(0:Int)<2147483629 by decide)]
  try simp_arith [xo]
  generalize hw:one*one % 2147483629=w
  have w0:0<=w:=by rw[<- hw];exact uu _ (by decide)
  have w9:w<2147483629:=by rw[<- hw];exact ur _ (by decide)
  simp only[zDj (show sm w/\sm 2147483563 from⟨zCm w0 (by nofun),zCm (by decide) (by decide)⟩)]
  try simp_arith [xo]
  simp only[zBq hm]
  try simp_arith [xo]
  exact⟨_,_,zFf h h2 (o1.trans (.set1 _)) rfl,uu _ (by nofun),ur _ hm,⟨_,_,_,h2⟩,o1.trans (.set1 _)⟩
end
end
end DS
namespace DS
open PySem (Str)
noncomputable section
open Classical
structure AtJ (env:Env) (j:Nat) (d:D) (env':Env):Prop where
 len:env'.length=env.length
 at_:env'[j]?=some (some d)
 o:∀i:Nat,i≠j->env'[i]?=env[i]?
theorem AtJ.set {env:Env}{j:Nat}(h:j<env.length) (d:D):AtJ env j d (env.set j (some d)):=⟨by simp,by rw[vq h],fun i hi=>xM (xw hi)⟩
theorem AtJ.more {env env1 env2:Env}{j:Nat}{d e:D}(a:AtJ env j d env1) (b:AtJ env1 j e env2):AtJ env j e env2:=⟨b.len.trans a.len,b.at_,fun i hi=>(b.o i hi).trans (a.o i hi)⟩
theorem zDs {gd:List (Nat × D)}{j:Nat}{c:TM}{e:EM}{f:D->D}{p:D->Bool}{S:Store}(hg:gOk S gd):∀(l:List D) (k:Nat) (env:Env),j<env.length->k+l.length<=most->(∀d∈l,∀env',AtJ env j d env'->c env' S=.ok (p d) S)->(∀d∈l,p d=true->∀env',AtJ env j d env'->e env' S=.ok (f d) S)->
  zBn gd (gName j) c e k l env S=.ok ((l.filter p).map f) S
 | [],k,env,_,_,_,_=>by rw[zBn,xg hg];rfl
 | d::l,k,env,hj,hk,hc,he=>by
  have hk':k+(l.length+1)<=most:=hk
  rw[zBn,xg ⟨hg,by nofun⟩]
  have a:=AtJ.set hj d
  show(c (env.set j (some d)) S).bind _=_
  rw[hc d (.head _) _ a,Rs.bind_ok]
  have up:∀x env',AtJ (env.set j (some d)) j x env'->AtJ env j x env':=fun x env' q=>a.more q
  have r:=fun k' (h:k'+l.length<=most)=>zDs hg l k' (env.set j (some d)) (by simpa using hj) h (fun x hx env' q=>hc x (.tail _ hx) env' (up x env' q)) fun x hx hp env' q=>he x (.tail _ hx) hp env' (up x env' q)
  by_cases hp:p d=true
  ·rw[xg hp,he d (.head _) hp _ a,Rs.bind_ok,r (k+1) (by nofun),Rs.bind_ok,uf hp];rfl
  ·rw[xh hp,r k (by nofun),uO hp]
theorem comp_map {gd:List (Nat × D)}{j:Nat}{e:EM}{f:D->D}{S:Store}(hg:gOk S gd) {l:List D}{env:Env}(hj:j<env.length) (hk:l.length<=most) (he:∀d∈l,∀env',AtJ env j d env'->e env' S=.ok (f d) S):zBn gd (gName j) tYes e 0 l env S=.ok (l.map f) S:=by
 have:=zDs (p:=fun _=>true) hg l 0 env hj (by nofun) (fun _ _ _ _=>rfl) fun d hd _=>he d hd
 rwa[List.filter_eq_self.mpr fun _ _=>rfl]at this
theorem zBt {S:Store}:gOk S []:=fun _ h=>nomatch h
theorem zM7 {gd:List (Nat × D)}{i j:Nat}{b:SM}{S:Store}{f:D->D->D}(hij:i≠j) (hg:gOk S gd) {I:D->Prop}:∀(l:List D) (env:Env) (a:D),env[i]?=some (some a)->j<env.length->I a->(∀d∈l,∀env' a,env'.length=env.length->env'[i]?=some (some a)->env'[j]?=some (some d)->I a->(∀k,k≠i->k≠j->env'[k]?=env[k]?)->b env' S=.nx (env'.set i (some (f a d))) S/\I (f a d))->
  ∃env',forL gd (gName j) b l env S=.nx env' S/\env'.length=env.length/\env'[i]?=some (some (l.foldl f a))/\I (l.foldl f a)/\∀k,k≠i->k≠j->env'[k]?=env[k]?
 | [],env,a,ha,hj,hi,_=>⟨env,by rw[forL,xg hg],rfl,ha,hi,fun _ _ _=>rfl⟩
 | d::l,env,a,ha,hj,hi,hb=>by
  have il:i<env.length:=(xK.mp ha).1
  obtain⟨e1,i1⟩:=hb d (.head _) (env.set j (some d)) a (by simp) (by rw[xM (xw hij)];exact ha) (by rw[vq hj]) hi fun k _ hk=>xM (xw hk)
  obtain⟨env',e2,l2,a2,i2,o2⟩:=zM7 hij hg l ((env.set j (some d)).set i (some (f a d))) (f a d) (by rw[vq (by simpa using il)]) (by simpa using hj) i1 fun x hx env' a' hl h1 h2 h3 h4=>hb x (.tail _ hx) env' a' (by simpa using hl) h1 h2 h3 fun k k1 k2=>by
   rw[h4 k k1 k2,xM (xw k1),xM (xw k2)]
  refine⟨env',?_,by simpa using l2,a2,i2,fun k k1 k2=>by rw[o2 k k1 k2,xM (xw k1),xM (xw k2)]⟩
  rw[forL,xg hg]
  show(match b (env.set j (some d)) S with|.nx e S1=>forL gd (gName j) b l e S1|.ct e S1=>forL gd (gName j) b l e S1|.bk e S1=>.nx e S1|q=>q)=_
  rw[e1]
  exact e2
end
end DS
namespace DS
open PySem (Str)
noncomputable section
open Classical
noncomputable def absI (x:Int):Int:=if 0-x > x then 0-x else x
noncomputable abbrev eAbs:EM:=eCB max2B (zA0 (eVar 0) (zA0 (eOp subD (eC (.int 0)) (eVar 0)) aNil))
noncomputable abbrev zN9 (i j:Nat):SM:=sSet i (eOp modD (eOp addD (eOp mulD (eVar i) (eC (.int 48271))) (eOp modD (eVar j) (eC (.int 2147483629)))) (eC (.int 2147483647)))
noncomputable abbrev zTa (i:Nat):EM:=zAs 1 [] (iVal (eVar i)) (gName 0) (tB (eOp geD (eVar 0) (eOp powD (eC (.int 10)) (eC (.int 18))))) (eVar 0)
noncomputable abbrev zNz (i j:Nat):SM:=sRet (zPc [zCq,kNum,zDn] (zA0 (eVar j) (zA0 (eC (.int 0)) (zA0 (eNew (eUn revL (zTa i))) aNil))))
theorem zPn {S:Store}{env:Env}(ns:List Int) (h:ns.length<=most):zBn [] (gName 0) tYes eAbs 0 (ns.map D.int) (compEnv 1 [] env) S=.ok ((ns.map absI).map D.int) S:=by
 have:=comp_map (j:=0) (e:=eAbs) (f:=fun d=>match d with|.int x=>.int (absI x)|d=>d) (S:=S) (l:=ns.map D.int) (env:=compEnv 1 [] env) zBt (by simp[compEnv]) (by simpa using h) fun d hd env' a=>by
  obtain⟨x,_,rfl⟩:=xA.mp hd
  have e0:∀S,eVar 0 env' S=.ok (.int x) S:=fun S=>by unfold eVar;rw[a.at_]
  unfold eAbs eCB zA0 eOp aNil eC
  simp only[e0,Rs.bind_ok,subD,zAf,max2B]
  rfl
 rw[this,ue,ue]
 rfl
theorem zMu {S:Store}{env:Env}(i:Nat) (ns:List Int) (hi:env[i]?=some (some (.lst (ns.map D.int)))) (h:ns.length<=most):zTa i env S=.ok (.lst ((ns.filter fun x=>decide ((10:Int) ^ 18<=x)).map D.int)) S:=by
 unfold zTa zAs iVal
 have e0:eVar i env S=.ok (.lst (ns.map D.int)) S:=by unfold eVar;rw[hi]
 rw[e0,Rs.bind_ok,show zC8 S (.lst (ns.map D.int))=some ⟨ns.map D.int,[]⟩from rfl,zAf,Rs.bind_ok]
 have:=zDs (j:=0) (c:=tB (eOp geD (eVar 0) (eOp powD (eC (.int 10)) (eC (.int 18))))) (e:=eVar 0) (f:=id) (p:=fun d=>match d with|.int x=>decide ((10:Int) ^ 18<=x)|_=>false) (S:=S) zBt (ns.map D.int) 0 (compEnv 1 [] env) (by simp[compEnv]) (by simpa using h) (fun d hd env' a=>by
  obtain⟨x,_,rfl⟩:=xA.mp hd
  have e0:∀S,eVar 0 env' S=.ok (.int x) S:=fun S=>by unfold eVar;rw[a.at_]
  have pw:powD S (.int 10) (.int 18)=some (.int ((10:Int) ^ 18)):=by
   show(if(0:Int)<=18/\(18:Int)<=1000000/\(10:Int).natAbs<2 ^ 64 then some (D.int ((10:Int) ^ (18:Int).toNat))else none)=_
   rw[xg (by decide)];rfl
  unfold tB eOp eC
  simp only[e0,Rs.bind_ok,pw,zAf,geD,asB]) (fun d hd hp env' a=>by
  unfold eVar;rw[a.at_];rfl)
 rw[this,Rs.bind_ok,List.map_id]
 congr 2
 exact List.filter_map
theorem zP8 {S:Store}{env:Env}{i j k:Nat}(hij:i≠j) (hik:i≠k) (hjk:j≠k) {ns:List Int}{a0:Int}(h1:env[i]?=some (some (.lst (ns.map D.int)))) (h2:env[j]?=some (some (.int a0))) (hk:k<env.length) (l0:0<=a0) (l1:a0<2147483647):
  ∃env' seed,sFor (iVal (eVar i)) (gName k) (zN9 j k) env S=.nx env' S/\env'.length=env.length/\env'[i]?=some (some (.lst (ns.map D.int)))/\env'[j]?=some (some (.int seed))/\0<=seed/\seed<2147483647:=by
 have e0:eVar i env S=.ok (.lst (ns.map D.int)) S:=by unfold eVar;rw[h1]
 obtain⟨env',e1,l2,a2,⟨seed,es,s0,s1⟩,o2⟩:=zM7 (b:=zN9 j k) (f:=fun a d=>match a,d with|.int a,.int d=>.int ((a*48271+d % 2147483629) % 2147483647)|a,_=>a) hjk zBt (I:=fun d=>∃x:Int,d=.int x/\0<=x/\x<2147483647) (ns.map D.int) env (.int a0) h2 hk ⟨a0,rfl,l0,l1⟩ fun d hd env' a hl q1 q2 q3 q4=>by
  obtain⟨x,_,rfl⟩:=xA.mp hd
  obtain⟨y,rfl,y0,y1⟩:=q3
  refine⟨?_,_,rfl,uu _ (by decide),ur _ (by decide)⟩
  have v1:∀S,eVar j env' S=.ok (.int y) S:=fun S=>by unfold eVar;rw[q1]
  have v2:∀S,eVar k env' S=.ok (.int x) S:=fun S=>by unfold eVar;rw[q2]
  unfold zN9 sSet eOp eC
  simp only[v1,v2,Rs.bind_ok,Rs.then_ok,zAf,zDj (show sm y/\sm 48271 from⟨zCm y0 (by nofun),zCm (by decide) (by decide)⟩),zBq (show(0:Int)<2147483629 by decide),addD,zBq (show(0:Int)<2147483647 by decide)]
 refine⟨env',seed,?_,l2,by rw[o2 i hij hik];exact h1,by rw[a2,es],s0,s1⟩
 unfold sFor iVal
 rw[e0,Rs.bind_ok,show zC8 S (.lst (ns.map D.int))=some ⟨ns.map D.int,[]⟩from rfl,zAf,Rs.then_ok]
 exact e1
theorem zUt {S:Store}{env:Env}{i j:Nat}{ns:List Int}{seed:Int}(h1:env[i]?=some (some (.lst (ns.map D.int)))) (h2:env[j]?=some (some (.int seed))) (s0:0<=seed) (s1:seed<2147483647) (hl:ns.length<=most):
  ∃S',zNz i j env S=.rt (.ref S.length) S'/\Deal S' S.length (S.length+1)/\S'.length=S.length+2/\∀k,k<S.length->S'[k]?=S[k]?:=by
 have v2:∀S,eVar j env S=.ok (.int seed) S:=fun S=>by unfold eVar;rw[h2]
 have rv:∀S (l:List D),revL S (.lst l)=some (.lst l.reverse):=fun _ _=>rfl
 have lk:((S++[D.dct false [] []])++[D.lst ((ns.filter fun x=>decide ((10:Int) ^ 18<=x)).map D.int).reverse])[S.length]?=some (D.dct false [] []):=by simp
 refine⟨((S++[D.dct false [] []])++[D.lst ((ns.filter fun x=>decide ((10:Int) ^ 18<=x)).map D.int).reverse]).set S.length (.dct false [zCq,kNum,zDn] [.int seed,.int 0,.ref (S++[D.dct false [] []]).length]),?_,?_,?_,?_⟩
 ·unfold zNz sRet zPc eNew eUn zA0 aNil eC
  simp only[v2,Rs.bind_ok,zMu i ns h1 hl,rv,zAf,lk,xo,Rs.then_ok]
 ·refine⟨seed,0,(ns.filter fun x=>decide ((10:Int) ^ 18<=x)).reverse,?_,?_,by nofun,s0,s1⟩
  ·simp[zCt]
  ·simp
 ·simp
 ·intro k hk
  rw[xM (by nofun),vf (by simp;lia),vf hk]
noncomputable def zNa:SM:=
  (sSeq (sSet 2 (zAs 1 [] (iVal (eSl slD (eVar 0) (pYes (eVar 1)) (pYes (eC (.int 63))))) (gName 0) tYes eAbs))
  (sSeq (sSet 3 (eOp addD (eC (.int 7919)) (eVar 1)))
  (sSeq (sFor (iVal (eVar 2)) (gName 4) (zN9 3 4)) (zNz 2 3))))
theorem zPm {ns:List Int}{lo hi:Option Int}:cutL (ns.map D.int) lo hi=(cutL ns lo hi).map D.int:=by
 unfold cutL
 simp[List.map_drop,List.map_take]
theorem zPl {S:Store}{ns:List Int}(h:ns.length<=63):∃S',zDz 2 5 zNa [.klst (ns.map D.int),.int 0] S=.ok (.ref S.length) S'/\Deal S' S.length (S.length+1)/\S'.length=S.length+2/\∀k,k<S.length->S'[k]?=S[k]?:=by
 have hl:((cutL ns (some 0) (some 63)).map absI).length<=most:=by
  have:(cutL ns (some 0) (some 63)).length<=ns.length:=by unfold cutL;rw[vo,ua];lia
  have m63:63<=most:=by decide
  rw[xF];lia
 have sl:slD S (.klst (ns.map D.int)) (some 0) (some 63)=some (.lst ((cutL ns (some 0) (some 63)).map D.int)):=by
  show some (D.lst (cutL (ns.map D.int) (some 0) (some 63)))=_
  rw[zPm]
 have c1:=zPn (S:=S) (env:=[some (.klst (ns.map D.int)),some (.int 0),none,none,none]) (cutL ns (some 0) (some 63)) (by rw[xF]at hl;exact hl)
 have w1:zC8 S (.lst ((cutL ns (some 0) (some 63)).map D.int))=some ⟨(cutL ns (some 0) (some 63)).map D.int,[]⟩:=rfl
 unfold zDz zNa
 simp only[xH,uQ,Nat.reduceAdd,xo,xx,vH,Nat.reduceSub,List.replicate,uH,uv]
 obtain⟨env',seed,e1,l1,a1,b1,s0,s1⟩:=zP8 (S:=S) (env:=[some (.klst (ns.map D.int)),some (.int 0),some (.lst (((cutL ns (some 0) (some 63)).map absI).map D.int)),some (.int (7919+0)),none]) (i:=2) (j:=3) (k:=4) (by decide) (by decide) (by decide) rfl rfl (by simp) (by decide) (by decide)
 obtain⟨S',e2,d2,l2,o2⟩:=zUt a1 b1 s0 s1 hl
 refine⟨S',?_,d2,l2,o2⟩
 have st:sSeq (sSet 2 (zAs 1 [] (iVal (eSl slD (eVar 0) (pYes (eVar 1)) (pYes (eC (.int 63))))) (gName 0) tYes eAbs)) (sSeq (sSet 3 (eOp addD (eC (.int 7919)) (eVar 1))) (sSeq (sFor (iVal (eVar 2)) (gName 4) (zN9 3 4)) (zNz 2 3))) [some (.klst (ns.map D.int)),some (.int 0),none,none,none] S=.rt (.ref S.length) S':=by
  simp only[sSeq,sSet,zAs,iVal,eSl,pYes,eC,eOp,eVar,yf,List.getElem?_cons_succ,Rs.bind_ok,zAf,ud,asI,sl,w1,c1,Rs.then_ok,List.set_cons_zero,List.set_cons_succ,addD]
  simp only[e1,e2]
 rw[st]
end
end DS
namespace DS
open PySem (Str)
noncomputable section
open Classical
theorem zBk {np nl:Nat}{b:SM}{ds:List D}{S:Store}{d:D}(hl:ds.length=np) (h:b (ds.map some++List.replicate (nl-np) none) S=.rt d S) (hd:d.low S.length=true):zAv np nl b ds S=.ok d S:=by
 unfold zAv
 rw[xg hl,h]
 exact zP9 hd
theorem zEl {np nl n m:Nat}{b:SM}{ds:List D}{S S':Store}{d:D}(hl:ds.length=np) (h:b (ds.map some++List.replicate (nl-np) none) S=.rt d S') (h0:Deal S n m) (h1:Deal S' n m) (o:Only n m S S') (hd:d.low S.length=true):zAv np nl b ds S=.ok d S':=by
 obtain⟨_,_,_,a⟩:=h0
 obtain⟨_,_,_,b⟩:=h1
 unfold zAv
 rw[xg hl,h]
 exact zFf a b o hd
end
end DS
namespace DS
open PySem (Str)
noncomputable section
open Classical
structure Grow (n m:Nat) (S S':Store):Prop where
 len:S.length<=S'.length
 at_:∀k,k<S.length->k≠n->k≠m->S'[k]?=S[k]?
section
variable {n m:Nat}{S S' S'':Store}
theorem Grow.trans (a:Grow n m S S') (b:Grow n m S' S''):Grow n m S S'':=⟨xp a.len b.len,fun k h h1 h2=>(b.at_ k (xE h a.len) h1 h2).trans (a.at_ k h h1 h2)⟩
theorem Only.grow (a:Only n m S S'):Grow n m S S':=⟨by rw[a.len];exact xi _,fun k _ h1 h2=>a.at_ k h1 h2⟩
theorem Grow.app (T:Store):Grow n m S (S++T):=⟨by simp,fun k h _ _=>vf h⟩
theorem Grow.set {c:Nat}{d:D}(a:Grow n m S S') (h:S.length<=c):Grow n m S (S'.set c d):=⟨by simpa using a.len,fun k hk h1 h2=>by rw[xM (by nofun)];exact a.at_ k hk h1 h2⟩
theorem Deal.lt (h:Deal S n m):n<S.length/\m<S.length:=by
 obtain⟨_,_,_,h⟩:=h
 exact⟨h.lt,h.ltm⟩
theorem Deal.app (h:Deal S n m) (T:Store):Deal (S++T) n m:=by
 have l:=h.lt
 obtain⟨a,b,c,h⟩:=h
 exact⟨a,b,c,⟨by rw[vf l.1];exact h.d,by rw[vf l.2];exact h.l,h.ne,h.lo,h.hi⟩⟩
theorem Deal.set {k:Nat}{d:D}(h:Deal S n m) (h1:k≠n) (h2:k≠m):Deal (S.set k d) n m:=by
 obtain⟨a,b,c,h⟩:=h
 exact⟨a,b,c,⟨by rw[xM h1];exact h.d,by rw[xM h2];exact h.l,h.ne,h.lo,h.hi⟩⟩
theorem zDl {n:Nat}:∀{S S':Store},S.length<=S'.length->(∀(i:Nat) (d:D),i<S.length->S'[i]?=some d->S[i]?=some d\/d.low n=true)->keeps n S S'
 | [],_,_,_=>trivial
 | a::r,[],e,_=>by simp at e
 | a::r,b::t,e,h=>⟨by
   rcases h 0 b (by simp) rfl with q|q
   ·exact .inl (by simpa using q)
   ·exact .inr q,zDl (by simpa using e) fun i d hi q=>by simpa using h (i+1) d (by simpa using hi) (by simpa using q)⟩
theorem zPa {d:D}(h:Deal S n m) (h':Deal S' n m) (g:Grow n m S S') (hd:d.low S.length=true):∃S'',fin S d S'=.ok d S''/\Deal S'' n m/\Only n m S S'':=by
 have l:=h.lt
 refine⟨S'.take S.length,?_,?_,?_⟩
 ·unfold fin
  rw[xg,xg hd]
  refine zDl g.len fun i e hi he=>?_
  obtain⟨_,_,_,h'⟩:=h'
  by_cases h1:i=n
  ·subst h1;rw[h'.d]at he;cases he;exact .inr (zF7 l.2)
  ·by_cases h2:i=m
   ·subst h2;rw[h'.l]at he;cases he;exact .inr (low_ints _)
   ·rw[g.at_ i hi h1 h2]at he;exact .inl he
 ·obtain⟨a,b,c,h'⟩:=h'
  exact⟨a,b,c,⟨by rw[ui l.1];exact h'.d,by rw[ui l.2];exact h'.l,h'.ne,h'.lo,h'.hi⟩⟩
 ·refine⟨by rw[vo];have:=g.len;lia,fun k h1 h2=>?_⟩
  by_cases hk:k<S.length
  ·rw[ui hk];exact g.at_ k hk h1 h2
  ·rw[vU (by rw[vo];lia),vU (by nofun)]
end
theorem zNv {k:Int}(h0:0<=k) (h:k<1000000):zEy [.int k]=some ⟨(List.range k.toNat).map fun(i:Nat)=>.int (i:Int),[]⟩:=by
 show(if fits62 k=true then some (Walk.mk (zE6 0 k) [])else none)=_
 rw[xg (by unfold fits62;exact xB ⟨by nofun,by nofun⟩)]
 unfold zE6
 simp
theorem zQ9 {α:Type}[BEq α] [LawfulBEq α]:∀{l m:List α},l.Nodup->(∀x∈l,x∈m)->l.length<=m.length
 | [],_,_,_=>vg _
 | a::l,m,h,hm=>by
  have hn:=x4.mp h
  have am:=hm a (.head _)
  have:=zQ9 hn.2 fun x hx=>(List.mem_erase_of_ne fun z=>hn.1 (by subst z;exact hx)).mpr (hm x (.tail _ hx))
  rw[List.length_erase_of_mem am]at this
  have:=List.length_pos_of_mem am
  rw[xH];lia
end
end DS
namespace DS
noncomputable section
open Classical
section
variable {n m c:Nat}{S S' S0:Store}{d:D}
theorem zXw {l:List D}(h:S[c]?=some (.lst l)) (hl:l.length<1000):zC7 S (.ref c) [d]=some (.non,S.set c (.lst (l++[d]))):=by
 unfold zC7
 simp only[h]
 have m9:1000<=most:=by decide
 rw[xg (by nofun)]
theorem ty_D {l:List D}(h:S[c]?=some (.lst l)):tyD S (.ref c)=some "list":=by unfold tyD;rw[show look S (.ref c)=_ from h]
structure MkD (n m:Nat) (S0:Store) (c:Nat) (l:List D) (S:Store):Prop where
 deal:Deal S n m
 grow:Grow n m S0 S
 at_:S[c]?=some (.lst l)
 far:S0.length<=c
theorem MkD.draw {l:List D}(h0:Deal S0 n m) (h:MkD n m S0 c l S) (d:Deal S' n m) (o:Only n m S S'):MkD n m S0 c l S':=by
 have l0:=h0.lt
 have:=h.far
 exact⟨d,h.grow.trans o.grow,by rw[o.at_ c (by nofun) (by nofun)];exact h.at_,h.far⟩
theorem MkD.add {l:List D}(h0:Deal S0 n m) (h:MkD n m S0 c l S) (d:D):MkD n m S0 c (l++[d]) (S.set c (.lst (l++[d]))):=by
 have l0:=h0.lt
 have:=h.far
 exact⟨h.deal.set (by nofun) (by nofun),h.grow.set h.far,by rw[vq (xK.mp h.at_).1],h.far⟩
theorem MkD.new (h0:Deal S0 n m) (d:Deal S n m) (g:Grow n m S0 S) (l:List D):MkD n m S0 S.length l (S++[.lst l]):=⟨d.app _,g.trans (.app _),by simp,g.len⟩
end
end
end DS
namespace DS
noncomputable section
open Classical
theorem zQp {α:Type}{h f:α->D}{gd:List (Nat × D)}{g:GM}{e:EM}{S:Store}{I:Env->Prop}(hg:gOk S gd):∀(xs:List α) (k:Nat) (env:Env),I env->k+xs.length<=most->
  (∀a∈xs,∀env,I env->∃env',g S (h a) env=some env'/\I env'/\e env' S=.ok (f a) S)->zBn gd g tYes e k (xs.map h) env S=.ok (xs.map f) S
 | [],k,env,_,_,_=>by rw[vH,zBn,xg hg];rfl
 | a::xs,k,env,hi,hk,he=>by
  have hk':k+(xs.length+1)<=most:=hk
  obtain⟨env',e1,e2,e3⟩:=he a (.head _) env hi
  rw[xx,zBn,xg ⟨hg,by nofun⟩,e1]
  dsimp only
  rw[tYes,Rs.bind_ok,xg rfl,e3,Rs.bind_ok,zQp hg xs (k+1) env' e2 (by nofun) fun b hb=>he b (.tail _ hb),Rs.bind_ok]
  rfl
theorem zMb {α:Type}{h f:α->D}{own:Nat}{ix:List Nat}{i:IM}{gd:List (Nat × D)}{g:GM}{e:EM}{S:Store}{env:Env}{xs:List α}(I:Env->Prop) (hi:i env S=.ok ⟨xs.map h,gd⟩ S) (hg:gOk S gd) (h0:I (compEnv own ix env)) (hk:xs.length<=most)
  (he:∀a∈xs,∀env,I env->∃env',g S (h a) env=some env'/\I env'/\e env' S=.ok (f a) S):zAs own ix i g tYes e env S=.ok (.lst (xs.map f)) S:=by
 rw[zAs,hi,Rs.bind_ok]
 rw[zQp hg xs 0 _ h0 (by nofun) he,Rs.bind_ok]
theorem zMv {α:Type}{h f:α->D}{p:α->Bool}{gd:List (Nat × D)}{g:GM}{c:TM}{e:EM}{S:Store}{I:Env->Prop}(hg:gOk S gd):∀(xs:List α) (k:Nat) (env:Env),I env->k+xs.length<=most->
  (∀a∈xs,∀env,I env->∃env',g S (h a) env=some env'/\I env'/\c env' S=.ok (p a) S/\(p a=true->e env' S=.ok (f a) S))->zBn gd g c e k (xs.map h) env S=.ok ((xs.filter p).map f) S
 | [],k,env,_,_,_=>by rw[vH,zBn,xg hg];rfl
 | a::xs,k,env,hi,hk,he=>by
  have hk':k+(xs.length+1)<=most:=hk
  obtain⟨env',e1,i1,e2,e3⟩:=he a (.head _) env hi
  rw[xx,zBn,xg ⟨hg,by nofun⟩,e1]
  show(c env' S).bind _=_
  rw[e2,Rs.bind_ok]
  cases q:p a with
  | true=>
   rw[xg rfl,e3 q,Rs.bind_ok,zMv hg xs (k+1) env' i1 (by nofun) fun b hb=>he b (.tail _ hb),Rs.bind_ok,List.filter_cons,xg q]
   rfl
  | false=>
   rw[xh (by decide),zMv hg xs k env' i1 (by nofun) fun b hb=>he b (.tail _ hb),List.filter_cons,xh (by rw[q];decide)]
theorem zMa {α:Type}{h f:α->D}{p:α->Bool}{own:Nat}{ix:List Nat}{i:IM}{gd:List (Nat × D)}{g:GM}{c:TM}{e:EM}{S:Store}{env:Env}{xs:List α}(I:Env->Prop) (hi:i env S=.ok ⟨xs.map h,gd⟩ S) (hg:gOk S gd) (h0:I (compEnv own ix env)) (hk:xs.length<=most)
  (he:∀a∈xs,∀env,I env->∃env',g S (h a) env=some env'/\I env'/\c env' S=.ok (p a) S/\(p a=true->e env' S=.ok (f a) S)):zAs own ix i g c e env S=.ok (.lst ((xs.filter p).map f)) S:=by
 rw[zAs,hi,Rs.bind_ok]
 rw[zMv hg xs 0 _ h0 (by nofun) he,Rs.bind_ok]
theorem zQi {α:Type}{h:α->D}{gd:List (Nat × D)}{g:GM}{b:SM}{ys:List α}(I:List α->Env->Store->Prop) (hg:∀P env S,I P env S->gOk S gd) (he:∀P a R,ys=P++a::R->∀env S,I P env S->∃env' env'' S',g S (h a) env=some env'/\b env' S=.nx env'' S'/\I (P++[a]) env'' S'):∀(xs P:List α) (env:Env) (S:Store),ys=P++xs->I P env S->∃env' S',forL gd g b (xs.map h) env S=.nx env' S'/\I ys env' S'
 | [],P,env,S,e,hi=>⟨env,S,by rw[vH,forL,xg (hg P env S hi)],by rw[e,v9];exact hi⟩
 | a::xs,P,env,S,e,hi=>by
  obtain⟨env',env'',S1,e1,e2,e3⟩:=he P a xs e env S hi
  obtain⟨e4,S2,e5,e6⟩:=zQi I hg he xs (P++[a]) env'' S1 (by rw[e];simp) e3
  refine⟨e4,S2,?_,e6⟩
  rw[xx,forL,xg (hg P env S hi),e1]
  dsimp only
  rw[e2]
  exact e5
end
end DS
namespace RW
open Classical
section
variable {α:Type}{rs:List (List α)}
theorem zYm {l m:List α}(h:l.Nodup) (s:∀x∈l,x∈m):l.length<=m.length:=by
 letI:BEq α:=instBEqOfDecidableEq
 exact DS.zQ9 h s
end
end RW
namespace DP
open DS RW
noncomputable section
open Classical
noncomputable abbrev Pt:=Int × Int
noncomputable abbrev cel (p:Pt):D:=.tup [.int p.1,.int p.2]
noncomputable abbrev rowD (r:List Pt):D:=.tup (r.map cel)
theorem zHg {p q:Pt}(h:cel p=cel q):p=q:=by
 have:=(uL (D.tup.inj h))
 exact Prod.ext (D.int.inj this.1) (D.int.inj (uL this.2).1)
theorem zCp {p:Pt}{l:List Pt}:cel p∈l.map cel <-> p∈l:=⟨fun h=>by obtain⟨q,hq,e⟩:=xA.mp h;rw[<- zHg e];exact hq,fun h=>xA.mpr ⟨p,h,rfl⟩⟩
theorem zG3 (p:Pt):lv 1 (cel p):=⟨_,rfl,fun x hx=>by
 rcases xn.mp hx with rfl|hx
 ·exact⟨p.1,rfl⟩
 ·exact⟨p.2,vk.mp hx⟩⟩
theorem zH5 (l:List Pt):∀y∈l.map cel,lv 1 y:=fun y hy=>by obtain⟨p,_,rfl⟩:=xA.mp hy;exact zG3 p
theorem zAu {k:Nat}:∀(l:List Pt),lowL k (l.map cel)=true
 | []=>rfl
 | p::l=>by show((cel p).low k && lowL k (l.map cel))=true;rw[zAu l];rfl
theorem zAj {a b:SM}{env e:Env}{S S1:Store}{r:SR}(h:a env S=.nx e S1) (h':b e S1=r):sSeq a b env S=r:=by rw[sSeq,h];exact h'
theorem zPz {a b:SM}{env:Env}{S S1:Store}{d:D}(h:a env S=.rt d S1):sSeq a b env S=.rt d S1:=by rw[sSeq,h]
theorem tru {S:Store}{b:Bool}:truth S (.bl b)=some b:=rfl
theorem zGi {α:Type}{p:α->Bool}:∀l:List α,bools (l.map fun x=>D.bl (p x))=some (l.map p)
 | []=>rfl
 | a::l=>by
  have:=zGi (p:=p) l
  show(bools (l.map fun x=>D.bl (p x))).map (p a::·)=_
  rw[this];rfl
theorem zQt {α:Type}{S:Store}{p:α->Prop}[DecidablePred p] (l:List α) [Decidable (∀x∈l,p x)]:allB S [.lst (l.map fun x=>.bl (decide (p x)))]=some (.bl (decide (∀x∈l,p x))):=by
 show((bools (l.map fun x=>D.bl (decide (p x)))).map fun bs=>D.bl (bs.all id))=_
 rw[zGi]
 show some (D.bl _)=_
 congr 2
 rw[v5,vK,decide_eq_true_iff]
 simp
theorem zJb {t:TM}{a b:SM}{env:Env}{S:Store}{q:SR}(h:t env S=.ok false S) (h2:b env S=q):sIf t a b env S=q:=by
 rw[sIf,h,Rs.then_ok,xh (by decide)];exact h2
theorem zWj {t:TM}{a b:SM}{env:Env}{S:Store}{q:SR}(h:t env S=.ok true S) (h2:a env S=q):sIf t a b env S=q:=by
 rw[sIf,h,Rs.then_ok,xg rfl];exact h2
theorem zN2 {l:List D}(h:∀x∈l,∃p,x=cel p):∃ps:List Pt,l=ps.map cel:=by
 induction l with
 | nil=>exact⟨[],rfl⟩
 | cons x l ih=>
  obtain⟨p,rfl⟩:=h x (.head _)
  obtain⟨ps,e⟩:=ih fun y hy=>h y (.tail _ hy)
  exact⟨p::ps,by rw[e];rfl⟩
theorem nd_cel {l:List Pt}:(l.map cel).Nodup <-> l.Nodup:=⟨fun h=>(List.pairwise_map.mp h).imp fun {a b} h z=>h (by rw[z]),fun h=>List.pairwise_map.mpr (h.imp fun {a b} h z=>h (zHg z))⟩
structure Sr (l cs:List Pt):Prop where
 eq:srt (l.map cel)=cs.map cel
 up:Up (cs.map cel)
 mem:∀p,p∈cs <-> p∈l
 len:cs.length=l.length
 nd:l.Nodup->cs.Nodup
theorem zUn (l:List Pt):∃cs,Sr l cs:=by
 have pm:=zBv (l.map cel)
 obtain⟨cs,e⟩:=zN2 (l:=srt (l.map cel)) fun x hx=>by
  obtain⟨p,_,rfl⟩:=xA.mp (pm.mem_iff.mp hx)
  exact⟨p,rfl⟩
 refine⟨cs,e,by rw[<- e];exact zHx (n:=1) (zH5 l),fun p=>?_,?_,fun h=>nd_cel.mp (by rw[<- e];exact pm.nodup_iff.mpr (nd_cel.mpr h))⟩
 ·rw[<- zCp (l:=cs),<- e,pm.mem_iff,zCp]
 ·have:=pm.length_eq
  rw[e,xF,xF]at this
  exact this
noncomputable def sr (l:List Pt):List Pt:=choose (zUn l)
theorem zY4 (l:List Pt):Sr l (sr l):=choose_spec (zUn l)
theorem drawn {S:Store}{n m:Nat}{many:Int}(hm:0<many) (h9:many<2147483648) (h:Deal S n m):∃(r:Int) (S':Store),zA1 [.ref n,.int many] S=.ok (.int r) S'/\0<=r/\r<many/\Deal S' n m/\Only n m S S':=zMf hm (zCm (by nofun) h9) h
theorem zR9 {n:Nat}(h:n<=1000):zEy [.int (n:Nat)]=some ⟨(List.range n).map fun(i:Nat)=>.int (i:Int),[]⟩:=by
 obtain⟨k,hk⟩:∃k:Int,k=(n:Int):=⟨_,rfl⟩
 rw[<- hk,zNv (by nofun) (by nofun),show k.toNat=n by nofun]
theorem zM1 {e:EM}{env:Env}{S S':Store}{n:Nat}(h:e env S=.ok (.int (n:Nat)) S') (hn:n<=1000):zIc (zA0 e aNil) env S=.ok ⟨(List.range n).map fun(i:Nat)=>.int (i:Int),[]⟩ S':=by
 unfold zIc zA0 aNil
 rw[h,Rs.bind_ok,Rs.bind_ok,Rs.bind_ok,zR9 hn]
 rfl
theorem zT6 {v:Bool}{S:Store}:fin [] (.bl v) S=.ok (.bl v) []:=by
 unfold fin
 rw[xg (show keeps ([]:Store).length [] S from trivial),xg (show(D.bl v).low ([]:Store).length=true from rfl)]
 rfl
noncomputable def Big (x:Int):Prop:=x.natAbs<=10000000000000000000
theorem smB {x:Int}(h:Big x):sm x:=by unfold Big at h;exact zR4 (by nofun) (by nofun)
theorem mulB {S:Store}{x y:Int}(h:Big x) (h':Big y):mulD S (.int x) (.int y)=some (.int (x*y)):=zDj ⟨smB h,smB h'⟩
theorem bigN {x:Int}(h:x.natAbs<=1000000):Big x:=by unfold Big;lia
theorem zWs {S:Store}{r:Int}(h0:0<=r) (h9:r<4):∃f:Int,2<=f/\f<=1000000000000000000/\ixD S (.lst [.int 2,.int 4,.int 1000,.int 1000000000000000000]) (.int r)=some (.int f):=by
 rcases(show r=0\/r=1\/r=2\/r=3 by nofun)with rfl|rfl|rfl|rfl
 ·exact⟨2,by decide,by decide,atL0⟩
 ·exact⟨4,by decide,by decide,atL1⟩
 ·exact⟨1000,by decide,by decide,atL2⟩
 ·exact⟨1000000000000000000,by decide,by decide,atL3⟩
theorem zX7 {S:Store}{n m:Nat}{many:Int}(hm:0<many) (h9:many<10000000000000000000) (h:Deal S n m):∃(r:Int) (S':Store),zA1 [.ref n,.int many] S=.ok (.int r) S'/\0<=r/\r<many/\Deal S' n m/\Only n m S S':=zMf hm (zR4 (by nofun) (by nofun)) h
theorem pick2 {S:Store}{a b r:Int}(h0:0<=r) (h9:r<2) (ha:0<=a) (hb:0<=b) (a9:a<=40) (b9:b<=40):∃k:Nat,k<=40/\ixD S (.lst [.int a,.int b]) (.int r)=some (.int (k:Nat)):=by
 rcases(show r=0\/r=1 by nofun)with rfl|rfl
 ·exact⟨a.toNat,by nofun,by rw[Int.toNat_of_nonneg ha];exact atL0⟩
 ·exact⟨b.toNat,by nofun,by rw[Int.toNat_of_nonneg hb];exact atL1⟩
end
end DP
namespace DP
open DS RW
noncomputable section
open Classical
noncomputable abbrev sqD (b:Bool) (F:List Pt):D:=bif b then .tup (F.map cel)else .lst (F.map cel)
theorem zFb {S:Store}{b:Bool}{F:List Pt}:items S (sqD b F)=some (F.map cel):=by cases b <;> rfl
theorem zJy {S:Store}{b:Bool}{F:List Pt}:zC8 S (sqD b F)=some ⟨F.map cel,[]⟩:=by cases b <;> rfl
theorem zM0 {e:EM}{env:Env}{S:Store}{b:Bool}{F:List Pt}(h:e env S=.ok (sqD b F) S):iVal e env S=.ok ⟨F.map cel,[]⟩ S:=by rw[iVal,h,Rs.bind_ok,zJy];rfl
structure Isl (F I:List Pt):Prop where
 eq:srt (dedup (F.map cel))=I.map cel
 up:Up (I.map cel)
 mem:∀p,p∈I <-> p∈F
 nd:I.Nodup
 len:I.length<=F.length
theorem zQe (F:List Pt):∃I,Isl F I:=by
 obtain⟨u,eu⟩:=zN2 (l:=dedup (F.map cel)) fun x hx=>by
  obtain⟨p,_,rfl⟩:=xA.mp (mem_dedup.mp hx)
  exact⟨p,rfl⟩
 have un:u.Nodup:=nd_cel.mp (by rw[<- eu];exact zDb)
 have um:∀p,p∈u <-> p∈F:=fun p=>by rw[<- zCp (l:=u),<- eu,mem_dedup,zCp]
 have k:=zY4 u
 exact⟨sr u,by rw[eu,k.eq],k.up,fun p=>(k.mem p).trans (um p),k.nd un,by rw[k.len];exact zYm un fun p hp=>(um p).mp hp⟩
noncomputable def iso (F:List Pt):List Pt:=choose (zQe F)
theorem zBs (F:List Pt):Isl F (iso F):=choose_spec (zQe F)
theorem zDh {F:List Pt}(h:F.length<=1199):setable (F.map cel):=⟨by rw[xF];exact h,0,by decide,zH5 F⟩
theorem zY3 {S:Store}{x:D}{F:List Pt}(hi:items S x=some (F.map cel)) (h:F.length<=1199):ssL S x=some (.lst ((iso F).map cel)):=by
 unfold ssL
 rw[hi]
 dsimp only
 rw[xg (zDh h),(zBs F).eq]
theorem zEq {S:Store}{l:List Pt}:zC2 S [.lst (l.map cel)]=some (rowD l):=rfl
theorem zAh {S:Store}{x:D}{F:List Pt}(hi:items S x=some (F.map cel)) (h:F.length<=1199):zAc [x] S=.ok (rowD (iso F)) S:=by
 refine zBk rfl ?_ (zAu _)
 unfold zDv
 simp_arith [zY3 hi h,zEq]
noncomputable def sg (f:Nat) (A B:List Pt):List Pt:=if f=0 then A++B else A.filter fun x=>if f=1 then decide (x∈B)else !decide (x∈B)
theorem zY6 (f:Nat) (A B:List Pt):soG f (A.map cel) (B.map cel)=(sg f A B).map cel:=by
 unfold soG sg
 by_cases c:f=0
 ·rw[xg c,xg c,vQ]
 ·rw[xh c,xh c,List.filter_map]
  congr 1
  refine List.filter_congr fun x _=>?_
  show(if f=1 then decide (cel x∈B.map cel)else !decide (cel x∈B.map cel))=_
  rw[show decide (cel x∈B.map cel)=decide (x∈B)from uN.mpr zCp]
theorem zR3 {S:Store}{f:Nat}{A B:List Pt}(h:A.length+B.length<=300):soL f S (rowD A) (rowD B)=some (.lst ((iso (sg f A B)).map cel)):=by
 show(if(A.map cel++B.map cel).length<=300/\setable (A.map cel++B.map cel)then some (D.lst (srt (dedup (soG f (A.map cel) (B.map cel)))))else none)=_
 rw[<- vQ,xg ⟨by rw[xF,xG];exact h,zDh (by rw[xG];lia)⟩,zY6,(zBs _).eq]
theorem zGw {S:Store}{A B:List Pt}(h:A.length+B.length<=300):zBy [rowD A,rowD B] S=.ok (rowD (iso (sg 0 A B))) S:=by
 refine zBk rfl ?_ (zAu _)
 unfold zEm
 simp_arith [zR3 (f:=0) h,zEq]
theorem zU0 {S:Store}{A B:List Pt}(h:A.length+B.length<=300):zDq [rowD A,rowD B] S=.ok (rowD (iso (sg 1 A B))) S:=by
 refine zBk rfl ?_ (zAu _)
 unfold zGp
 simp_arith [zR3 (f:=1) h,zEq]
theorem zIv {S:Store}{A B:List Pt}(h:A.length+B.length<=300):zCi [rowD A,rowD B] S=.ok (rowD (iso (sg 2 A B))) S:=by
 refine zBk rfl ?_ (zAu _)
 unfold zGo
 simp_arith [zR3 (f:=2) h,zEq]
theorem zW4 {S:Store}{p q:Pt}:ltN S (cel p) (cel q)=some (.bl (blt (cel p) (cel q))):=by
 show(if ∃n,n+1<=6/\lv (n+1) (cel p)/\lv (n+1) (cel q)then some (D.bl (blt (cel p) (cel q)))else none)=_
 rw[xg ⟨0,by decide,zG3 p,zG3 q⟩]
theorem zP4 {S:Store}{b:Bool}{F:List Pt}{p:Pt}:inK S (cel p) (sqD b F)=some (.bl (decide (p∈F))):=by
 have k:(if lvs (cel p::F.map cel)then some (decide (cel p∈F.map cel))else none)=some (decide (p∈F)):=by
  rw[xg ⟨1,by decide,by rw[<- xx];exact zH5 _⟩]
  congr 1
  exact uN.mpr zCp
 cases b
 ·show((if lvs (cel p::F.map cel)then some (decide (cel p∈F.map cel))else none).map D.bl)=_
  rw[k];rfl
 ·show((if lvs (cel p::F.map cel)then some (decide (cel p∈F.map cel))else none).map D.bl)=_
  rw[k];rfl
theorem zOt {S:Store}{b:Bool}{F:List Pt}{p:Pt}:zE9 S (cel p) (sqD b F)=some (.bl (!decide (p∈F))):=by
 have k:=zP4 (S:=S) (b:=b) (F:=F) (p:=p)
 unfold inK at k
 unfold zE9
 cases e:inKO S (cel p) (sqD b F)with
 | none=>rw[e]at k;cases k
 | some c=>rw[e]at k;cases k;rfl
theorem zKc {n d k:Nat}:sIx n d (some (k:Int))=min k n:=by
 show(if(k:Int)<0 then((k:Int)+(n:Int)).toNat else min ((k:Int)).toNat n)=_
 rw[xh (by nofun),show((k:Int)).toNat=k by nofun]
theorem zMs {α:Type}{l:List α}(k:Nat):cutL l (some (k:Int)) none=l.drop k:=by
 unfold cutL
 rw[zKc,show sIx l.length l.length none=l.length from rfl,uc (by rw[ua];exact xi _)]
 by_cases c:k<=l.length
 ·rw[Nat.min_eq_left c]
 ·rw[Nat.min_eq_right (by nofun),List.drop_length,List.drop_eq_nil_of_le (by nofun)]
theorem zNm {α:Type}{l:List α}(k:Nat):cutL l none (some (k:Int))=l.take k:=by
 unfold cutL
 rw[zKc,show sIx l.length 0 none=0 from rfl,List.drop_zero,Nat.sub_zero]
 by_cases c:k<=l.length
 ·rw[Nat.min_eq_left c]
 ·rw[Nat.min_eq_right (by nofun),List.take_length,uc (by nofun)]
theorem cut1 {I:List Pt}{S:Store}:slD S (rowD I) (some 1) none=some (rowD (I.drop 1)):=by
 show some (D.tup (cutL (I.map cel) (some ((1:Nat):Int)) none))=_
 rw[zMs,<- List.map_drop]
theorem zJw:∀(I J:List Pt),((I.map cel).zip (J.map cel)).map (fun p=>D.tup [p.1,p.2])=(I.zip J).map fun p=>D.tup [cel p.1,cel p.2]
 | [],_=>rfl
 | _::_,[]=>rfl
 | a::I,b::J=>by
  rw[xx,xx,vP,vP,xx,xx,zJw I J]
theorem zLd:∀{I:List Pt},Up (I.map cel)->I.Nodup->∀p∈I.zip (I.drop 1),blt (cel p.1) (cel p.2)=true
 | [],_,_,p,h=>by cases h
 | [a],_,_,p,h=>by cases h
 | a::b::I,u,n,p,h=>by
  rcases xn.mp (show p∈(a,b)::(b::I).zip ((b::I).drop 1)from h)with rfl|h
  ·have u1:=(vD.mp u).1 (cel b) (.head _)
   have hne:cel a≠cel b:=fun z=>(x4.mp n).1 (by rw[zHg z];exact .head _)
   rcases zFm 1 (zG3 a) (zG3 b) hne with z|z
   ·exact z
   ·rw[show blt (cel b) (cel a)=false from u1]at z;cases z
  ·exact zLd (vD.mp u).2 (x4.mp n).2 p h
end
end DP
namespace DP
open DS RW
noncomputable section
open Classical
section
variable {S:Store}{I W F G:List Pt}{b c:Bool}
theorem zSl {p q:Pt}:ltN S (cel p) (cel q)=some (.bl (decide (blt (cel p) (cel q)=true))):=by
 rw[zW4]
 cases blt (cel p) (cel q) <;> rfl
theorem rises (up:Up (I.map cel)) (nd:I.Nodup) (hl:I.length<=1000) {o:Option D}:eCB allB (zA0 (zAs 2 [] (iZp true true (zA0 (eVar 0) (zA0 (eSl slD (eVar 0) (pYes (eC (.int 1))) pNo) aNil))) (gTup [(gName 0),(gName 1)]) tYes (eOp ltN (eVar 0) (eVar 1))) aNil) [some (rowD I),o] S=.ok (.bl true) S:=by
 have z:zipW true true S [rowD I,rowD (I.drop 1)]=some ⟨(I.zip (I.drop 1)).map fun p=>D.tup [cel p.1,cel p.2],[]⟩:=by
  show(if true=true/\true=true then some (Walk.mk (((I.map cel).zip ((I.drop 1).map cel)).map fun p=>D.tup [p.1,p.2]) ([]++[]))else none)=_
  rw[xg ⟨rfl,rfl⟩,zJw]
  rfl
 have c:(zAs 2 [] (iZp true true (zA0 (eVar 0) (zA0 (eSl slD (eVar 0) (pYes (eC (.int 1))) pNo) aNil))) (gTup [(gName 0),(gName 1)]) tYes (eOp ltN (eVar 0) (eVar 1))) [some (rowD I),o] S=.ok (.lst ((I.zip (I.drop 1)).map fun p=>.bl (decide (blt (cel p.1) (cel p.2)=true)))) S:=by
  refine zMb (xs:=I.zip (I.drop 1)) (h:=fun p=>D.tup [cel p.1,cel p.2]) (gd:=[]) (fun env=>∃o p,env=[o,p]) ?_ zBt ⟨none,none,rfl⟩ ?_ ?_
  ·simp_arith [iZp,cut1,z]
  ·rw[List.length_zip];exact xp (xp (Nat.min_le_left _ _) hl) (by decide)
  ·rintro x hx env ⟨o,p,rfl⟩
   exact⟨[some (cel x.1),some (cel x.2)],by simp_arith [xo],⟨_,_,rfl⟩,by simp_arith [zSl]⟩
 have al:=zQt (S:=S) (p:=fun p:Pt × Pt=>blt (cel p.1) (cel p.2)=true) (I.zip (I.drop 1))
 rw[xB fun p hp=>zLd up nd p hp]at al
 rw[eCB,zA0,c,Rs.bind_ok,aNil,Rs.bind_ok,Rs.bind_ok,al]
 rfl
structure Sq (S:Store) (x:D) (F:List Pt):Prop where
 gd:∃gd,zC8 S x=some ⟨F.map cel,gd⟩/\gOk S gd
 inn:∀p,inK S (cel p) x=some (.bl (decide (p∈F)))
theorem Sq.of:Sq S (sqD b F) F:=⟨⟨[],zJy,zBt⟩,fun _=>zP4⟩
theorem zQs {e:EM}{i:Nat}{env:Env}{x y:D}(hi:e env S=.ok x S) (hx:Sq S x I) (hv:compEnv 1 [i] env=[none,some y]) (hy:Sq S y W) (hl:I.length<=1000) (h:∀p∈I,p∈W):eCB allB (zA0 (zAs 1 [i] (iVal e) (gName 0) tYes (eOp inK (eVar 0) (eVar 1))) aNil) env S=.ok (.bl true) S:=by
 obtain⟨gd,w,g⟩:=hx.gd
 have c:(zAs 1 [i] (iVal e) (gName 0) tYes (eOp inK (eVar 0) (eVar 1))) env S=.ok (.lst (I.map fun p=>.bl (decide (p∈W)))) S:=by
  refine zMb (xs:=I) (h:=cel) (gd:=gd) (fun env=>∃o,env=[o,some y]) (by rw[iVal,hi,Rs.bind_ok,w];rfl) g ⟨none,hv⟩ (xp hl (by decide)) ?_
  rintro x hx env ⟨o,rfl⟩
  exact⟨[some (cel x),some y],by simp_arith [xo],⟨_,rfl⟩,by simp_arith [hy.inn]⟩
 have al:=zQt (S:=S) (p:=fun p:Pt=>p∈W) I
 rw[xB h]at al
 rw[eCB,zA0,c,Rs.bind_ok,aNil,Rs.bind_ok,Rs.bind_ok,al]
 rfl
theorem zIb {y:D}(hy:Sq S y W) (up:Up (I.map cel)) (nd:I.Nodup) (hl:I.length<=1000) (hw:W.length<=1000) (m:∀p,p∈I <-> p∈W):zA2 [rowD I,y] S=.ok (.bl true) S:=by
 refine zBk rfl ?_ rfl
 have r:=rises (S:=S) (o:=some y) up nd hl
 have i:=zSx (S:=S) (zSw (l:=I.map cel))
 have a1:=zQs (S:=S) (W:=W) (e:=eVar 0) (i:=1) (env:=[some (rowD I),some y]) (x:=rowD I) rfl (Sq.of (b:=true)) rfl hy hl fun p hp=>(m p).mp hp
 have a2:=zQs (S:=S) (I:=W) (W:=I) (e:=eVar 1) (i:=0) (env:=[some (rowD I),some y]) (y:=rowD I) rfl hy rfl (Sq.of (b:=true)) hw fun p hp=>(m p).mpr hp
 refine zAj (e:=[some (rowD I),some y]) (S1:=S) (zJb ?_ rfl) ?_
 ·have t1:tNot (tTru (eCB isiQ (zA0 (eVar 0) (zA0 (eC (.ty "tuple")) aNil)))) [some (rowD I),some y] S=.ok false S:=by simp_arith [i,tTru,tru]
  rw[tOr]
  show(Rs.bind (tNot (tTru (eCB isiQ (zA0 (eVar 0) (zA0 (eC (.ty "tuple")) aNil)))) [some (rowD I),some y] S) _)=_
  rw[t1,Rs.bind_ok,xh (by decide),tNot,tTru]
  show Rs.bind (Rs.bind (eCB allB _ [some (rowD I),some y] S) _) _=_
  rw[r]
  rfl
 ·show(sRet (eAnd _ _)) [some (rowD I),some y] S=_
  rw[sRet,eAnd]
  show((Rs.bind (eCB allB _ [some (rowD I),some y] S) _:Rs D).then _)=_
  rw[a1,Rs.bind_ok]
  show((eCB allB _ [some (rowD I),some y] S:Rs D).then _)=_
  rw[a2]
  rfl
theorem zCh (up:Up (I.map cel)) (nd:I.Nodup) (hl:I.length<=1000) (hw:W.length<=1000) (m:∀p,p∈I <-> p∈W):zA2 [rowD I,sqD b W] S=.ok (.bl true) S:=zIb .of up nd hl hw m
theorem zLk:zD0 S [sqD b F]=some (.lst (F.map cel)):=by
 show(items S (sqD b F)).map D.lst=_
 rw[zFb];rfl
theorem zFs (h:F.length+G.length<=1000):addD S (.lst (F.map cel)) (.lst (G.map cel))=some (.lst ((F++G).map cel)):=by
 show(if(F.map cel).length+(G.map cel).length<=most then some (D.lst (F.map cel++G.map cel))else none)=_
 rw[xg (by rw[xF,xF];exact xp h (by decide)),vQ]
theorem zWn {env:Env}(hi:eVar 0 env S=.ok (sqD b F) S) (hv:compEnv 1 [1] env=[none,some (sqD c G)]) (hl:F.length<=1000):(zAs 1 [1] (iVal (eVar 0)) (gName 0) (tB (eOp inK (eVar 0) (eVar 1))) (eVar 0)) env S=.ok (.lst ((F.filter fun x=>decide (x∈G)).map cel)) S:=by
 refine zMa (xs:=F) (h:=cel) (gd:=[]) (p:=fun x=>decide (x∈G)) (fun env=>∃o,env=[o,some (sqD c G)]) (zM0 hi) zBt ⟨none,hv⟩ (xp hl (by decide)) ?_
 rintro x hx env ⟨o,rfl⟩
 exact⟨[some (cel x),some (sqD c G)],by simp_arith [xo],⟨_,rfl⟩,by simp_arith [zP4],fun _=>by simp_arith [xo]⟩
theorem zT4 {env:Env}(hi:eVar 0 env S=.ok (sqD b F) S) (hv:compEnv 1 [1] env=[none,some (sqD c G)]) (hl:F.length<=1000):(zAs 1 [1] (iVal (eVar 0)) (gName 0) (tB (eOp zE9 (eVar 0) (eVar 1))) (eVar 0)) env S=.ok (.lst ((F.filter fun x=>!decide (x∈G)).map cel)) S:=by
 refine zMa (xs:=F) (h:=cel) (gd:=[]) (p:=fun x=>!decide (x∈G)) (fun env=>∃o,env=[o,some (sqD c G)]) (zM0 hi) zBt ⟨none,hv⟩ (xp hl (by decide)) ?_
 rintro x hx env ⟨o,rfl⟩
 exact⟨[some (cel x),some (sqD c G)],by simp_arith [xo],⟨_,rfl⟩,by simp_arith [zOt],fun _=>by simp_arith [xo]⟩
noncomputable abbrev pE (b c:Bool) (F G:List Pt) (o:Option D):Env:=[some (sqD b F),some (sqD c G),some (rowD (iso F)),some (rowD (iso G)),o]
theorem zI1 (hf:F.length<=300) (hg:G.length<=300) (hh:(iso F).length+(iso G).length<=300):zAo [sqD b F,sqD c G] S=.ok (.bl true) S:=by
 have kF:=zBs F
 have kG:=zBs G
 have sgm:∀f p,p∈sg f (iso F) (iso G) <-> p∈sg f F G:=fun f p=>by
  unfold sg
  by_cases z:f=0
  ·rw[xg z,xg z,xV,xV,kF.mem,kG.mem]
  ·rw[xh z,xh z,uA,uA,kF.mem,show decide (p∈iso G)=decide (p∈G)from uN.mpr (kG.mem p)]
 have sgl:∀f,(iso (sg f (iso F) (iso G))).length<=1000:=fun f=>by
  refine xp (zBs _).len ?_
  unfold sg
  split
  ·rw[xG];lia
  ·exact xp (List.length_filter_le _ _) (by nofun)
 have ii:∀(f:Nat) (W:List Pt),W=sg f F G->W.length<=1000->zA2 [rowD (iso (sg f (iso F) (iso G))),.lst (W.map cel)] S=.ok (.bl true) S:=fun f W e hw=>by
  have k:=zBs (sg f (iso F) (iso G))
  exact zCh (b:=false) k.up k.nd (sgl f) hw fun p=>by rw[k.mem,sgm,e]
 refine zBk rfl ?_ rfl
 have i1:=zCh (S:=S) (b:=b) kF.up kF.nd (xp kF.len (by nofun)) (by nofun) kF.mem
 have i2:=zCh (S:=S) (b:=c) kG.up kG.nd (xp kG.len (by nofun)) (by nofun) kG.mem
 have f1:=zAh (S:=S) (x:=sqD b F) zFb (by nofun)
 have f2:=zAh (S:=S) (x:=sqD c G) zFb (by nofun)
 have t0:=zGw (S:=S) hh
 have t1:=zU0 (S:=S) hh
 have t2:=zIv (S:=S) hh
 have j0:=ii 0 (F++G) rfl (by rw[xG];lia)
 have j1:=ii 1 (F.filter fun x=>decide (x∈G)) rfl (xp (List.length_filter_le _ _) (by nofun))
 have j2:=ii 2 (F.filter fun x=>!decide (x∈G)) rfl (xp (List.length_filter_le _ _) (by nofun))
 have l1:=zLk (S:=S) (b:=b) (F:=F)
 have l2:=zLk (S:=S) (b:=c) (F:=G)
 have a1:=zFs (S:=S) (F:=F) (G:=G) (by nofun)
 have c1:=zWn (S:=S) (b:=b) (c:=c) (F:=F) (G:=G) (env:=pE b c F G none) rfl rfl (by nofun)
 have c2:=zT4 (S:=S) (b:=b) (c:=c) (F:=F) (G:=G) (env:=pE b c F G (some (.lst ((F.filter fun x=>decide (x∈G)).map cel)))) rfl rfl (by nofun)
 refine zAj (e:=pE b c F G none) (S1:=S) (by simp_arith [f1,f2]) (zAj (e:=pE b c F G none) (S1:=S) (zJb ?_ rfl) (zAj (e:=pE b c F G none) (S1:=S) (zJb ?_ rfl) (zAj (e:=pE b c F G (some (.lst ((F.filter fun x=>decide (x∈G)).map cel)))) (S1:=S) ?_ (zAj (e:=pE b c F G (some (.lst ((F.filter fun x=>decide (x∈G)).map cel)))) (S1:=S) (zJb ?_ rfl) ?_))))
 ·simp_arith [i1,i2,tTru,tru]
 ·have hx:eOp addD (eCB zD0 (zA0 (eVar 0) aNil)) (eCB zD0 (zA0 (eVar 1) aNil)) (pE b c F G none) S=.ok (.lst ((F++G).map cel)) S:=by
   rw[eOp,show eCB zD0 (zA0 (eVar 0) aNil) (pE b c F G none) S=.ok (.lst (F.map cel)) S by simp_arith [l1],Rs.bind_ok,show eCB zD0 (zA0 (eVar 1) aNil) (pE b c F G none) S=.ok (.lst (G.map cel)) S by simp_arith [l2],Rs.bind_ok,a1]
   rfl
  rw[tNot,tTru,zA9,zA0]
  rw[show zA9 zBy (zA0 (eVar 2) (zA0 (eVar 3) aNil)) (pE b c F G none) S=.ok (rowD (iso (sg 0 (iso F) (iso G)))) S by simp_arith [t0],Rs.bind_ok,zA0,hx,Rs.bind_ok,aNil,Rs.bind_ok,Rs.bind_ok,Rs.bind_ok,j0]
  rfl
 ·rw[sSet,c1];rfl
 ·simp_arith [t1,j1,tTru,tru]
 ·rw[sRet,zA9,zA0]
  rw[show zA9 zCi (zA0 (eVar 2) (zA0 (eVar 3) aNil)) (pE b c F G (some (.lst ((F.filter fun x=>decide (x∈G)).map cel)))) S=.ok (rowD (iso (sg 2 (iso F) (iso G)))) S by simp_arith [t2],Rs.bind_ok,zA0,c2,Rs.bind_ok,aNil,Rs.bind_ok,Rs.bind_ok,Rs.bind_ok,j2]
  rfl
end
end
end DP
namespace DP
open DS RW
noncomputable section
open Classical
theorem zJp {S S':Store}{n m c np nl:Nat}{b:SM}{ds l:List D}(hl:ds.length=np) (h:b (ds.map some++List.replicate (nl-np) none) S=.rt (.ref c) S') (h0:Deal S n m) (mk:MkD n m S c l S') (hd:lowL S.length l=true):∃S'',zAv np nl b ds S=.ok (.lst l) S''/\Deal S'' n m/\Only n m S S'':=by
 have l0:=h0.lt
 obtain⟨S'',e,a,b'⟩:=zPa (d:=.non) h0 mk.deal mk.grow rfl
 refine⟨S'',?_,a,b'⟩
 unfold zAv
 rw[xg hl,h]
 show fin S (.ref c) S'=_
 unfold fin at e ⊢
 have kp:keeps S.length S S':=by
  refine zDl mk.grow.len fun i d hi he=>?_
  have h':=mk.deal
  obtain⟨_,_,_,h'⟩:=h'
  by_cases h1:i=n
  ·subst h1;rw[h'.d]at he;cases he;exact .inr (zF7 l0.2)
  ·by_cases h2:i=m
   ·subst h2;rw[h'.l]at he;cases he;exact .inr (low_ints _)
   ·rw[mk.grow.at_ i hi h1 h2]at he;exact .inl he
 rw[xg kp,xg (show D.low S.length D.non=true from rfl)]at e
 rw[xg kp,xh (by show ¬ decide (c<S.length)=true;have:=mk.far;simpa using this)]
 have hc:S'[c]?=some (.lst l):=mk.at_
 simp only[hc]
 rw[xg (show(D.lst l).low S.length=true from hd)]
 cases e
 rfl
noncomputable abbrev iB:SM:=(zKl (eMt "list" zC7 (eVar 2) (zA0 (eTup (zA0 (eOp subD (zA9 zA1 (zA0 (eVar 0) (zA0 (eOp addD (eOp mulD (eC (.int 2)) (eVar 1)) (eC (.int 1))) aNil))) (eVar 1)) (zA0 (eOp subD (zA9 zA1 (zA0 (eVar 0) (zA0 (eOp addD (eOp mulD (eC (.int 2)) (eVar 1)) (eC (.int 1))) aNil))) (eVar 1)) aNil))) aNil)))
theorem zYn {S0 S:Store}{n m c:Nat}{f:Int}{o3:Option D}{l:List Pt}(h0:Deal S0 n m) (h:MkD n m S0 c (l.map cel) S) (hl:l.length<=100) (g0:2<=f) (g9:f<=1000000000000000000):∃(p:Pt) (S':Store),iB [some (.ref n),some (.int f),some (.ref c),o3] S=.nx [some (.ref n),some (.int f),some (.ref c),o3] S'/\MkD n m S0 c ((l++[p]).map cel) S':=by
 obtain⟨x,S2,e2,x0,x9,d2,o2⟩:=zX7 (many:=2*f+1) (by nofun) (by nofun) h.deal
 obtain⟨y,S3,e3,y0,y9,d3,o3'⟩:=zX7 (many:=2*f+1) (by nofun) (by nofun) d2
 have m1:∀S,mulD S (.int 2) (.int f)=some (.int (2*f)):=fun _=>mulB (bigN (by decide)) (by unfold Big;lia)
 have mk:=h.draw h0 d3 (o2.trans o3')
 have mk2:=mk.add h0 (cel (x-f,y-f))
 have em:l.map cel++[cel (x-f,y-f)]=(l++[(x-f,y-f)]).map cel:=by rw[vQ];rfl
 have ap:=zXw (d:=cel (x-f,y-f)) mk.at_ (by rw[xF];lia)
 rw[em]at ap mk2
 refine⟨(x-f,y-f),_,?_,mk2⟩
 simp_arith [eMt,ty_D h.at_,m1,e2,e3,ap]
theorem zIo {S:Store}{n m:Nat}(h:Deal S n m):∃(I:List Pt) (S':Store),zB8 [.ref n] S=.ok (.lst (I.map cel)) S'/\I.length<=40/\Deal S' n m/\Only n m S S':=by
 obtain⟨r,S1,e1,r0,r9,d1,o1⟩:=drawn (many:=4) (by decide) (by decide) h
 obtain⟨f,g0,g9,ef⟩:=zWs (S:=S1) r0 r9
 have mk0:MkD n m S S1.length (([]:List Pt).map cel) (S1++[.lst []]):=MkD.new h d1 o1.grow []
 obtain⟨a,S2,e2,a0,a9,d2,o2⟩:=drawn (many:=7) (by decide) (by decide) mk0.deal
 obtain⟨b,S3,e3,b0,b9,d3,o3⟩:=drawn (many:=41) (by decide) (by decide) d2
 obtain⟨q,S4,e4,q0,q9,d4,o4⟩:=drawn (many:=2) (by decide) (by decide) d3
 obtain⟨k,k9,ek⟩:=pick2 (S:=S4) q0 q9 a0 b0 (by nofun) (by nofun)
 have mk4:=((mk0.draw h d2 o2).draw h d3 o3).draw h d4 o4
 have pw:∀S,powD S (.int 10) (.int 18)=some (.int 1000000000000000000):=fun _=>rfl
 have rg:=zM1 (e:=eOp ixD (eLst (zA0 (zA9 zA1 (zA0 (eVar 0) (zA0 (eC (.int 7)) aNil))) (zA0 (zA9 zA1 (zA0 (eVar 0) (zA0 (eC (.int 41)) aNil))) aNil))) (zA9 zA1 (zA0 (eVar 0) (zA0 (eC (.int 2)) aNil)))) (env:=[some (.ref n),some (.int f),some (.ref S1.length),none]) (S:=S1++[.lst []]) (S':=S4) (n:=k) (by
  rw[ixL]at ek
  simp_arith [e2,e3,e4,ek]) (by nofun)
 obtain⟨env',S5,e5,l,o3',rfl,mk5,ll⟩:=zQi (h:=fun(i:Nat)=>D.int (i:Int)) (gd:=[]) (g:=gName 3) (b:=iB) (ys:=List.range k) (fun P env S'=>∃(l:List Pt) (o3:Option D),env=[some (.ref n),some (.int f),some (.ref S1.length),o3]/\MkD n m S S1.length (l.map cel) S'/\l.length=P.length) (fun _ _ _ _=>zBt) (fun P i R eq env S' hh=>by
  obtain⟨l,o3,rfl,mk,ll⟩:=hh
  have pl:P.length<=40:=by
   have:=congrArg List.length eq
   rw[List.length_range,xG]at this
   lia
  obtain⟨p,S2,e,mk2⟩:=zYn (o3:=some (.int (i:Int))) h mk (by nofun) g0 g9
  exact⟨_,_,S2,rfl,e,l++[p],_,rfl,mk2,by rw[xG,xG,ll];rfl⟩) (List.range k) [] [some (.ref n),some (.int f),some (.ref S1.length),none] S4 rfl ⟨[],none,rfl,mk4,rfl⟩
 rw[List.length_range]at ll
 have body:zBu ([.ref n].map some++List.replicate (4-1) none) S=.rt (.ref S1.length) S5:=by
  refine zAj (e:=[some (.ref n),some (.int f),none,none]) (S1:=S1) (by rw[ixL]at ef;simp_arith [pw,e1,ef]) (zAj (e:=[some (.ref n),some (.int f),some (.ref S1.length),none]) (S1:=S1++[.lst []]) (by simp_arith [eNew]) (zAj (e:=[some (.ref n),some (.int f),some (.ref S1.length),o3']) (S1:=S5) ?_ rfl))
  rw[sFor,rg,Rs.then_ok]
  exact e5
 obtain⟨S6,e6,d6,o6⟩:=zJp (np:=1) (nl:=4) (b:=zBu) (ds:=[.ref n]) rfl body h mk5 (zAu l)
 exact⟨l,S6,e6,by nofun,d6,o6⟩
theorem zSy {t:TM}{a b:SM}{env:Env}{S S1:Store}{p:Prop}[Decidable p] (h:t env S=.ok (decide p) S1):sIf t a b env S=if p then a env S1 else b env S1:=by
 rw[sIf,h,Rs.then_ok]
 by_cases c:p
 ·rw[xg c,xg (xB c)]
 ·rw[xh c,xh (by simpa using c)]
theorem zLm {S:Store}{l:List D}:lenB S [.lst l]=some (.int (l.length:Nat)):=rfl
theorem zHa:∀(F:List Pt),zC5 (F.map cel)=true
 | []=>rfl
 | p::F=>by show((cel p).flat && zC5 (F.map cel))=true;rw[zHa F];rfl
theorem zMx:∀(F G:List Pt),cmpL (F.map cel) (G.map cel)=true
 | [],_=>rfl
 | _::_,[]=>rfl
 | p::F,q::G=>by show((cel p).cmp (cel q) && cmpL (F.map cel) (G.map cel))=true;rw[zMx F G];rfl
theorem zMg:∀(F:List Pt),depL (F.map cel)<=60
 | []=>by decide
 | p::F=>by show max (cel p).dep (depL (F.map cel))<=60;exact Nat.max_le.mpr ⟨show(cel p).dep<=60 from(by nofun:(1:Nat)<=60),zMg F⟩
theorem zF1 (F G:List Pt):okL (F.map cel) (G.map cel):=⟨zHa F,zHa G,zMx F G,zMg F⟩
theorem eq_nil {S:Store}{F:List Pt}:eqD S (.lst (F.map cel)) (.lst [])=some (.bl (decide (F=[]))):=by
 show((if okL (F.map cel) ([]:List D)then some (decide (F.map cel=[]))else none).map D.bl)=_
 rw[xg (show okL (F.map cel) []from zF1 F []),show decide (F.map cel=[])=decide (F=[])from uN.mpr List.map_eq_nil_iff]
 rfl
theorem eq_i {S:Store}{x y:Int}:eqD S (.int x) (.int y)=some (.bl (decide (x=y))):=rfl
theorem zEi {S:Store}{n m:Nat}{F:List Pt}(h:Deal S n m) (hl:F.length<=100):∃(G:List Pt) (S':Store),zAt [.ref n,.lst (F.map cel)] S=.ok (.lst (G.map cel)) S'/\(∀p,p∈G <-> p∈F)/\G.length<=2*F.length+1/\Deal S' n m/\Only n m S S':=by
 by_cases z:F=[]
 ·subst z
  refine⟨[],S,zBk rfl ?_ rfl,fun p=>Iff.rfl,by simp,h,.refl⟩
  have e:eqD S (.lst []) (.lst [])=some (.bl (decide (([]:List Pt)=[]))):=eq_nil (S:=S) (F:=[])
  rw[xB rfl]at e
  refine zPz (zWj ?_ rfl)
  show tOr _ _ _ _=_
  rw[tOr,show tB (eOp eqD (eVar 1) (eLst aNil)) ([D.ref n,.lst (([]:List Pt).map cel)].map some++List.replicate (3-2) none) S=.ok true S by simp_arith [e],Rs.bind_ok,xg rfl]
 ·have e:=eq_nil (S:=S) (F:=F)
  rw[xy z]at e
  obtain⟨r,S1,e1,r0,r9,d1,o1⟩:=drawn (many:=2) (by decide) (by decide) h
  have tt:tOr (tB (eOp eqD (eVar 1) (eLst aNil))) (tB (eOp eqD (zA9 zA1 (zA0 (eVar 0) (zA0 (eC (.int 2)) aNil))) (eC (.int 0)))) [some (.ref n),some (.lst (F.map cel)),none] S=.ok (decide (r=0)) S1:=by
   rw[tOr,show tB (eOp eqD (eVar 1) (eLst aNil)) [some (.ref n),some (.lst (F.map cel)),none] S=.ok false S by simp_arith [e],Rs.bind_ok,xh (by decide)]
   simp_arith [e1,eq_i]
  by_cases c:r=0
  ·refine⟨F,S1,zEl rfl ?_ h d1 o1 (zAu F),fun p=>Iff.rfl,by nofun,d1,o1⟩
   refine zPz ?_
   show sIf _ _ _ [some (.ref n),some (.lst (F.map cel)),none] S=_
   rw[zSy tt,xg c]
   rfl
  ·have lp:=List.length_pos_iff.mpr z
   obtain⟨k,S2,e2,k0,k9,d2,o2⟩:=drawn (many:=(F.length:Int)) (by nofun) (by have:=hl;lia) d1
   obtain⟨j,ej⟩:∃j:Nat,k=(j:Int):=⟨k.toNat,by nofun⟩
   subst ej
   have hj:j<F.length:=by nofun
   refine⟨F.drop j++F++[F[j]],S2,zEl rfl ?_ h d2 (o1.trans o2) (zAu _),fun p=>?_,by simp;lia,d2,o1.trans o2⟩
   ·refine zAj (e:=[some (.ref n),some (.lst (F.map cel)),none]) (S1:=S1) (by show sIf _ _ _ [some (.ref n),some (.lst (F.map cel)),none] S=_;rw[zSy tt,xh c];rfl) (zAj (e:=[some (.ref n),some (.lst (F.map cel)),some (.int (j:Int))]) (S1:=S2) ?_ ?_)
    ·have ln:lenB S1 [.lst (F.map cel)]=some (.int (F.length:Nat)):=by rw[zLm,xF]
     simp_arith [ln,e2]
    ·have s1:slD S2 (.lst (F.map cel)) (some (j:Int)) none=some (.lst ((F.drop j).map cel)):=by
      show some (D.lst (cutL (F.map cel) (some (j:Int)) none))=_
      rw[zMs,<- List.map_drop]
     have a1:=zFs (S:=S2) (F:=F.drop j) (G:=F) (by rw[ua];lia)
     have a2:=zFs (S:=S2) (F:=F.drop j++F) (G:=[F[j]]) (by simp;lia)
     have ix:atL (F.map cel) (j:Int)=some (cel F[j]):=atN rfl (by rw[vx,xu hj];rfl)
     have x1:eSl slD (eVar 1) (pYes (eVar 2)) pNo [some (.ref n),some (.lst (F.map cel)),some (.int (j:Int))] S2=.ok (.lst ((F.drop j).map cel)) S2:=by simp_arith [s1]
     have x2:eLst (zA0 (eOp ixD (eVar 1) (eVar 2)) aNil) [some (.ref n),some (.lst (F.map cel)),some (.int (j:Int))] S2=.ok (.lst ([F[j]].map cel)) S2:=by simp_arith [ix]
     rw[sRet,eOp,eOp,x1,Rs.bind_ok,show eVar 1 [some (.ref n),some (.lst (F.map cel)),some (.int (j:Int))] S2=.ok (.lst (F.map cel)) S2 from rfl,Rs.bind_ok,a1]
     rw[zAf,Rs.bind_ok,x2,Rs.bind_ok,a2]
     rfl
   ·simp only[xV,vk]
    constructor
    ·rintro((q|q)|q)
     ·exact List.mem_of_mem_drop q
     ·exact q
     ·rw[q];exact List.getElem_mem hj
    ·exact fun q=>.inl (.inr q)
end
end DP
namespace DP
open DS RW
noncomputable section
open Classical
section
variable {S:Store}{F G:List Pt}{c:Nat}
theorem zUo (h:S[c]?=some (.lst (F.map cel))):Sq S (.ref c) F:=by
 have lk:look S (.ref c)=some (.lst (F.map cel)):=h
 refine⟨⟨[(c,.lst (F.map cel))],?_,fun p hp=>by rw[vk.mp hp];exact h⟩,fun p=>?_⟩
 ·unfold zC8
  rw[lk]
  show some (Walk.mk (F.map cel) (match S[c]? with|some d=>[(c,d)]|none=>[]))=_
  rw[h]
 ·have:=zP4 (S:=S) (b:=false) (F:=F) (p:=p)
  unfold inK inKO at this ⊢
  rw[lk]
  exact this
theorem zQd (h:S[c]?=some (.lst (F.map cel))):items S (.ref c)=some (F.map cel):=by
 unfold items
 rw[show look S (.ref c)=some (.lst (F.map cel))from h]
theorem zVy (h:S[c]?=some (.lst (F.map cel))):neD S (.ref c) (.lst (F.map cel))=some (.bl false):=by
 unfold neD eqO
 rw[show look S (.ref c)=some (.lst (F.map cel))from h]
 show((if okL (F.map cel) (F.map cel)then some (decide (F.map cel=F.map cel))else none).map fun b=>D.bl (!b))=_
 rw[xg (zF1 F F),xB rfl]
 rfl
theorem zVx:neD S (rowD F) (rowD F)=some (.bl false):=by
 show((if okL (F.map cel) (F.map cel)then some (decide (F.map cel=F.map cel))else none).map fun b=>D.bl (!b))=_
 rw[xg (zF1 F F),xB rfl]
 rfl
theorem zT8:eqD S (.tup []) (.tup [])=some (.bl true):=by
 show((if okL [] []then some (decide (([]:List D)=[]))else none).map D.bl)=_
 rw[xg (show okL [] []from zF1 [] []),xB rfl]
 rfl
theorem zLy:iso []=[]:=yn (Nat.le_zero.mp (zBs []).len)
theorem zPu:zC2 S [.lst (F.map cel)]=some (rowD F):=rfl
end
theorem zTu:zC6=zDz 2 5 zNa:=rfl
noncomputable abbrev lE (v:D) (F G:List Pt) (o4 o5:Option D):Env:=[some v,some (.ref 0),some (.lst (F.map cel)),some (.lst (G.map cel)),o4,o5]
theorem law_ok (ns:List Int) (hn:ns.length<=63):∃S,zJd [.klst (ns.map .int)] []=.ok (.bl true) S:=by
 generalize hv:D.klst (ns.map .int)=v
 obtain⟨S1,e1,d1,_,_⟩:=zPl (S:=[]) hn
 rw[<- zTu,hv]at e1
 obtain⟨A0,S2,e2,a0,d2,o2⟩:=zIo (n:=0) (m:=1) d1
 obtain⟨B0,S3,e3,b0,d3,o3⟩:=zIo d2
 obtain⟨k,S4,e4,k0,k9,d4,o4⟩:=drawn (many:=(A0.length:Int)+1) (by nofun) (by nofun) d3
 obtain⟨j,rfl⟩:∃j:Nat,k=(j:Int):=⟨k.toNat,by nofun⟩
 obtain⟨A,S5,e5,am,al,d5,o5⟩:=zEi (F:=A0) d4 (by nofun)
 obtain⟨B1,S6,e6,bm,bl,d6,o6⟩:=zEi (F:=B0++A0.take j) d5 (by rw[xG];have:=List.length_take_le j A0;lia)
 obtain⟨q,S7,e7,q0,q9,d7,o7⟩:=drawn (many:=8) (by decide) (by decide) d6
 have bl2:B1.length<=161:=by rw[xG]at bl;have:=List.length_take_le j A0;lia
 obtain⟨B,x5,b9⟩:∃B:List Pt,sIf (tB (eOp eqD (zA9 zA1 (zA0 (eVar 1) (zA0 (eC (.int 8)) aNil))) (eC (.int 0)))) (sSet 3 (eUn revS (eVar 2))) zCo (lE v A B1 none none) S6=.nx (lE v A B none none) S7/\B.length<=161:=by
  have tt:tB (eOp eqD (zA9 zA1 (zA0 (eVar 1) (zA0 (eC (.int 8)) aNil))) (eC (.int 0))) (lE v A B1 none none) S6=.ok (decide (q=0)) S7:=by simp_arith [e7,eq_i]
  rw[zSy tt]
  by_cases z:q=0
  ·rw[xg z]
   have rv:revS S7 (.lst (A.map cel))=some (.lst (A.reverse.map cel)):=by
    show some (D.lst (A.map cel).reverse)=_
    rw[List.map_reverse]
   exact⟨A.reverse,by simp_arith [rv],by rw[uU];lia⟩
  ·rw[xh z]
   exact⟨B1,rfl,bl2⟩
 have zA:=(zBs A).len
 have zB:=(zBs B).len
 -- a list of its own
 generalize hc:S7.length=c
 have at8:(S7++[D.lst (A.map cel)])[c]?=some (.lst (A.map cel)):=by rw[<- hc];simp
 generalize hS8:S7++[D.lst (A.map cel)]=S8 at at8
 have x6:sSet 4 (eNew (eCB zD0 (zA0 (eVar 2) aNil))) (lE v A B none none) S7=.nx (lE v A B (some (.ref c)) none) S8:=by
  have l:zD0 S7 [.lst (A.map cel)]=some (.lst (A.map cel)):=zLk (S:=S7) (b:=false) (F:=A)
  rw[<- hS8,<- hc]
  simp_arith [l,eNew]
 have i1:=zAh (S:=S8) (zQd at8) (by nofun)
 have p1:=zI1 (S:=S8) (b:=true) (c:=false) (F:=A) (G:=B) (by nofun) (by nofun) (by nofun)
 have p2:=zI1 (S:=S8) (b:=false) (c:=false) (F:=B) (G:=A) (by nofun) (by nofun) (by nofun)
 have n1:=zVy at8
 have ap:=zXw (d:=cel (7,7)) at8 (by rw[xF];lia)
 have at9:(S8.set c (.lst (A.map cel++[cel (7,7)])))[c]?=some (.lst ((A++[(7,7)]).map cel)):=by
  rw[vq (xK.mp at8).1,vQ];rfl
 generalize hS9:S8.set c (.lst (A.map cel++[cel (7,7)]))=S9 at at9 ap
 have i2:=zAh (S:=S9) (x:=rowD A) (F:=A) rfl (by nofun)
 have i3:=zAh (S:=S9) (zQd at9) (by rw[xG];simp;lia)
 have kA:=zBs A
 have k7:=zBs (A++[(7,7)])
 have z7:=k7.len
 rw[xG,show [((7:Int),(7:Int))].length=1 from rfl]at z7
 have s1:=zIb (S:=S9) (zUo at9) k7.up k7.nd (by nofun) (by rw[xG];simp;lia) k7.mem
 have s2:=zCh (S:=S9) (b:=false) kA.up kA.nd (by nofun) (by nofun) kA.mem
 have i4:zAc [.lst []] S9=.ok (.tup []) S9:=by
  have:=zAh (S:=S9) (x:=.lst []) (F:=[]) rfl (by simp)
  rw[zLy]at this
  exact this
 have i5:zAc [.tup []] S9=.ok (.tup []) S9:=by
  have:=zAh (S:=S9) (x:=.tup []) (F:=[]) rfl (by simp)
  rw[zLy]at this
  exact this
 refine⟨[],?_⟩
 unfold zJd zAv
 rw[xg (show [v].length=1 from rfl)]
 suffices hb':zU3 ([v].map some++List.replicate (6-1) none) []=.rt (.bl true) S9 by rw[hb'];exact zT6
 refine zAj (e:=[some v,some (.ref 0),none,none,none,none]) (S1:=S1) (by simp_arith [e1]) ?_
 refine zAj (e:=lE v A0 B0 none none) (S1:=S3) (by simp_arith [e2,e3]) ?_
 refine zAj (e:=lE v A0 (B0++A0.take j) none none) (S1:=S4) ?_ ?_
 ·have ln:lenB S3 [.lst (A0.map cel)]=some (.int (A0.length:Nat)):=by rw[zLm,xF]
  have sl:slD S4 (.lst (A0.map cel)) none (some (j:Int))=some (.lst ((A0.take j).map cel)):=by
   show some (D.lst (cutL (A0.map cel) none (some (j:Int))))=_
   rw[zNm,<- List.map_take]
  have x1:eSl slD (eVar 2) pNo (pYes (zA9 zA1 (zA0 (eVar 1) (zA0 (eOp addD (eCB lenB (zA0 (eVar 2) aNil)) (eC (.int 1))) aNil)))) (lE v A0 B0 none none) S3=.ok (.lst ((A0.take j).map cel)) S4:=by simp_arith [ln,e4,sl]
  have ad:=zFs (S:=S4) (F:=B0) (G:=A0.take j) (by have:=List.length_take_le j A0;lia)
  rw[sSet,eOp,show eVar 3 (lE v A0 B0 none none) S3=.ok (.lst (B0.map cel)) S3 from rfl,Rs.bind_ok,x1,Rs.bind_ok,ad]
  rfl
 refine zAj (e:=lE v A B1 none none) (S1:=S6) (by simp_arith [e5,e6]) (zAj x5 (zAj x6 ?_))
 refine zAj (e:=lE v A B (some (.ref c)) (some (rowD (iso A)))) (S1:=S8) (by simp_arith [i1]) ?_
 have tp:=zPu (S:=S8) (F:=A)
 refine zAj (e:=lE v A B (some (.ref c)) (some (rowD (iso A)))) (S1:=S8) (zJb ?_ rfl) ?_
 ·have p1':zAo [rowD A,.lst (B.map cel)] S8=.ok (.bl true) S8:=p1
  have p2':zAo [.lst (B.map cel),.lst (A.map cel)] S8=.ok (.bl true) S8:=p2
  simp_arith [n1,tp,p1',p2',tTru,tru]
 refine zAj (e:=lE v A B (some (.ref c)) (some (rowD (iso A)))) (S1:=S9) (by simp_arith [eMt,ty_D at8,ap]) ?_
 have tp9:=zPu (S:=S9) (F:=A)
 refine zAj (e:=lE v A B (some (.ref c)) (some (rowD (iso A)))) (S1:=S9) (zJb ?_ rfl) ?_
 ·have n2:=zVx (S:=S9) (F:=iso A)
  simp_arith [tp9,i2,n2,i3,s1,tTru,tru]
 ·have s2':zA2 [rowD (iso A),.lst (A.map cel)] S9=.ok (.bl true) S9:=s2
  have z:=zT8 (S:=S9)
  simp_arith [s2',i4,i5,z]
end
end DP
namespace Law
open PySem PySem.Spec PyProof.Rows L2
noncomputable abbrev n_0:List Str:=["_law_script","_law_base","_law_cells_here","_law_number","_law_cell"]
noncomputable abbrev n_1:List Str:=["_law_first","_law_second","_law_one","_law_other","_law_both"]
noncomputable abbrev n_2:List Str:=["_law_deal_here","_law_many","_law_number","_law_one","_law_other"]
noncomputable abbrev n_3:List Str:=["_law_deal_here","_law_far","_law_some","_law_k"]
noncomputable abbrev n_4:List Str:=["_law_deal_here","_law_some","_law_at"]
noncomputable abbrev n_5:List Str:=["_law_script","_law_deal_here","_law_first","_law_second","_law_handed","_law_found"]
noncomputable def top (i:Nat):Stmt:=PySem.Challenge.pw_healfloor_k41_islands_put_together.main.body.getD i (.Pass ⟨0,0,0,0⟩)
noncomputable abbrev kD (P:Params) (l:List (Str × Tok × Value)):Array DictEntry:=(l.map fun x=>⟨PyData.keyHash P x.1,.str x.1 x.2.1,x.2.2⟩).toArray
noncomputable abbrev mA_:Value:=(.str "healfloor.islands" 187)
noncomputable abbrev mB_:Value:=(.str "law_healfloor_k41_islands_put_together" 220)
noncomputable abbrev cO (x f:Str) (t:Tok) (l n c:Int) (a:Addr) (g:Int) (v:List Value) (k:Int) (u:Tok):Obj:=⟨.type "code",none,.fields (([.str x t,.str x (t+1),.str f (t+2),.int l 0,.int n 0,.int 0 0,.int 0 0,.int c 0,.ref a,.bool true,.int g 0]:List Value)++v++([.int k 0,.int l 0,.str f u]:List Value)).toArray,#[]⟩
noncomputable def KF (P:Params):PySem.W.Frag:=[
 (3,⟨(.type "dict"),none,(.dict (kD P [("__name__",165,(.str "law_healfloor_k41_islands_put_together" 220)),("__doc__",166,.none),("__package__",167,.none),("__loader__",168,(.builtin "__main__.__loader__#opaque")),("__spec__",169,.none),("__annotations__",170,(.ref 6)),("__builtins__",171,(.ref 4)),("__file__",173,(.str "/claim/cut.py" 172)),("__cached__",174,.none),("island_of",195,(.ref 21)),("together",203,(.ref 28)),("both_of",211,(.ref 35)),("without",219,(.ref 42)),("_law_deal",227,(.ref 47)),("_law_draw",238,(.ref 54)),("_law_cells",248,(.ref 61)),("_law_doubled",257,(.ref 68)),("_law_is_island",263,(.ref 73)),("_law_pairs",269,(.ref 78)),("law",281,(.ref 85))]) 20),#[]⟩),
 (20,cO "island_of" "/claim/cut.py" 189 2 1 3 15 181 [.ref 16,.none,.ref 17,.ref 18,.ref 19] 193 194),
 (21,fO "island_of" (top 1) mA_ 20),
 (27,cO "together" "/claim/cut.py" 196 4 2 3 22 181 [.ref 23,.none,.ref 24,.ref 25,.ref 26] 201 202),
 (28,fO "together" (top 2) mA_ 27),
 (34,cO "both_of" "/claim/cut.py" 204 6 2 3 29 181 [.ref 30,.none,.ref 31,.ref 32,.ref 33] 209 210),
 (35,fO "both_of" (top 3) mA_ 34),
 (41,cO "without" "/claim/cut.py" 212 8 2 3 36 181 [.ref 37,.none,.ref 38,.ref 39,.ref 40] 217 218),
 (42,fO "without" (top 4) mA_ 41),
 (46,cO "_law_deal" "/claim/cut.py" 222 11 2 3 43 181 [.ref 44,.none,.none,.none,.ref 45] 225 226),
 (47,fO "_law_deal" (top 6) mB_ 46),
 (53,cO "_law_draw" "/claim/cut.py" 228 17 2 3 48 181 [.ref 49,.none,.ref 50,.ref 51,.ref 52] 236 237),
 (54,fO "_law_draw" (top 7) mB_ 53),
 (60,cO "_law_cells" "/claim/cut.py" 239 28 1 3 55 181 [.ref 56,.none,.ref 57,.ref 58,.ref 59] 246 247),
 (61,fO "_law_cells" (top 8) mB_ 60),
 (67,cO "_law_doubled" "/claim/cut.py" 249 34 2 3 62 181 [.ref 63,.none,.ref 64,.ref 65,.ref 66] 255 256),
 (68,fO "_law_doubled" (top 9) mB_ 67),
 (72,cO "_law_is_island" "/claim/cut.py" 258 39 2 3 69 181 [.ref 70,.none,.none,.none,.ref 71] 261 262),
 (73,fO "_law_is_island" (top 10) mB_ 72),
 (77,cO "_law_pairs" "/claim/cut.py" 264 43 2 3 74 181 [.ref 75,.none,.none,.none,.ref 76] 267 268),
 (78,fO "_law_pairs" (top 11) mB_ 77),
 (84,cO "law" "/claim/cut.py" 270 53 1 3 79 181 [.ref 80,.none,.ref 81,.ref 82,.ref 83] 279 280),
 (85,fO "law" (top 12) mB_ 84)]
noncomputable def view:Program:={ PySem.Challenge.pw_healfloor_k41_islands_put_together with main:={ PySem.Challenge.pw_healfloor_k41_islands_put_together.main with body:=[1,2,3,4,6,7,8,9,10,11,12].map top } }
noncomputable abbrev hk:PySem.W.Hook:=PySem.W.kHook KF [3,20,21,27,28,34,35,41,42,46,47,53,54,60,61,67,68,72,73,77,78,84,85] (fun _=>by kernel_rfl)
theorem left:PySem.W.LeftO PySem.Challenge.pw_healfloor_k41_islands_put_together view [] (fun s=>PySem.W.xlAt view [] s && PySem.W.recOk [] s) (PySem.W.Hook.obs hk) (PySem.W.Hook.val hk) 880:=fun w=>by kernel_rfl
noncomputable abbrev CC (x:Str) (k:Nat) (ps:List Str) (F:DS.Fn):Prop:=∀{w:World}{mg:Str->Option Value}{base:Heap},Gd (KF w.params) mg->Cal PySem.Challenge.pw_healfloor_k41_islands_put_together w (KF w.params) mg base x k ps (spOf (KF w.params) XE0 F)
set_option hygiene false in
local macro_rules | `(tactic| ac_rfl) => `(tactic| first | kernel_rfl | (intro _ _ _ _ _ _ us hl; first | (obtain ⟨_, rfl⟩ := len1 hl; rfl) | (obtain ⟨_, _, rfl⟩ := len2 hl; rfl) | (obtain ⟨_, _, _, rfl⟩ := len3 hl; rfl) | (obtain ⟨_, _, _, _, rfl⟩ := len4 hl; rfl) | (obtain ⟨_, _, _, _, _, rfl⟩ := len5 hl; rfl)) | (intro cdv A outer s H E hr; (first | refine zIj ?_ ?_ | refine zFk (zMe ?_) | refine zFk (zQk ?_ ?_ ?_) | refine zFk ?_); repeat' (first
 | with_reducible (show DE _ _ _ _ _;first|apply zWz|apply zQo|apply zTv|apply zXl|apply zXi|apply zTf|apply zXh|apply zYz|apply zZ7|apply zXo|apply zXk|apply zX1|(apply zZ1;first|apply zS7|apply zSh|apply zSd|apply zSc|apply zS8|apply zOr)|(apply zXn;first|apply zSe|apply zQ6|apply zLa)|(apply zXg;first|apply zK1)|(apply zZ4;first|apply ix_D)|(apply zZ0;first|apply sl_D)|(apply zYv;first|apply zJm|apply zJn|apply zN5|apply zJo)|(apply zYu;first|apply zGb)|(apply zX2;exact s_pop;apply zSk)|(apply zYs;exact zNu;apply zJ4)|apply zZ2)
 | with_reducible (show DA _ _ _ _ _;first|apply zTx|apply zXp)
 | with_reducible (show DT _ _ _ _ _;first|apply zX4|(apply zX5;first|apply zVu|apply zVv|apply zVt|apply zLa|apply zQ6|apply zL8|apply zS9)|apply zX3|apply dt_w)
 | with_reducible (show DW _ _ _ _ _;first|apply zWy|apply zTb|apply zYr|apply zWx)
 | with_reducible (show DF _ _ _ _ _;first|apply zYx|apply zXd|apply zTs|apply zTq|apply zJi|apply zTe|apply zXe|(apply zYt;first|apply zHh))
 | with_reducible (show DG _ _ _ _;first|apply zTd|apply zXc)
 | with_reducible (show DGs _ _ _ _;first|apply zPj|apply zTo)
 | with_reducible (show DIf _ _ _ _ _;first|apply zTn|apply zTm)
 | with_reducible (show DI _ _ _ _ _ _;first|apply zXb|apply zMi|apply zXa)
 | with_reducible (show DS1 _ _ _ _ _;first|apply zMe|(apply zTc;kernel_rfl!)|apply zTi|apply zMd|apply zQk|apply zPf|apply zPe|apply zX0|(apply zTh;first|apply zY7))
 | with_reducible (show DSs _ _ _ _ _;first|apply zIj|apply zFk|apply zTj)
 | with_reducible (show DO _ _ _ _ _;first|apply zX8|apply zYw)
 | with_reducible (show DPs _ _ _ _ _ _ _ _;first|apply zPg|apply zTk)
 | exact G.z _ (by kernel_rfl)
 | kernel_rfl
 | exact PassesOwn.never
 | exact zF3 (by kernel_rfl)
 | exact hr.units
 | exact zYo hr
 | exact hr.units0
 | exact hr.mono (by decide)
 | exact zHi G
 | exact zJr G
 | exact zN8 G
 | exact zN7 G
 | exact zHk G
 | exact zHj G
 | exact zD1 G
 | exact zGh G
 | exact zE1 G
 | exact zGg G
 | exact .inl rfl
 | exact .inr rfl
 | exact .inr (.inl rfl)
 | exact .inr (.inr rfl)
 | decide
 | exact nomark _
 | with_unfolding_all rfl
 | intro _ _ _ _ _)))
theorem zHi:CC "island_of" 1 ["cells"] DP.zAc:=fun G=>by apply zE0 G 21 20 (top 1) mA_ ["cells"];all_goals ac_rfl
theorem zJr:CC "together" 1 ["one","other"] DP.zBy:=fun G=>by apply zE0 G 28 27 (top 2) mA_ ["one","other"];all_goals ac_rfl
theorem zN8:CC "both_of" 1 ["one","other"] DP.zDq:=fun G=>by apply zE0 G 35 34 (top 3) mA_ ["one","other"];all_goals ac_rfl
theorem zN7:CC "without" 1 ["one","other"] DP.zCi:=fun G=>by apply zE0 G 42 41 (top 4) mA_ ["one","other"];all_goals ac_rfl
theorem zHk:CC "_law_deal" 1 ["_law_script","_law_base"] DP.zC6:=fun G=>by apply zZ9 G 47 46 (top 6) mB_ n_0;all_goals ac_rfl
theorem zHj:CC "_law_draw" 1 ["_law_deal_here","_law_many"] DP.zA1:=fun G=>by apply zE0 G 54 53 (top 7) mB_ n_2;all_goals ac_rfl
theorem zD1:CC "_law_is_island" 1 ["_law_found","_law_due"] DP.zA2:=fun G=>by apply zE0 G 73 72 (top 10) mB_ ["_law_found","_law_due"];all_goals ac_rfl
theorem zGh:CC "_law_cells" 2 ["_law_deal_here"] DP.zB8:=fun G=>by apply zE0 G 61 60 (top 8) mB_ n_3;all_goals ac_rfl
theorem zE1:CC "_law_doubled" 2 ["_law_deal_here","_law_some"] DP.zAt:=fun G=>by apply zE0 G 68 67 (top 9) mB_ n_4;all_goals ac_rfl
theorem zGg:CC "_law_pairs" 2 ["_law_first","_law_second"] DP.zAo:=fun G=>by apply zE0 G 78 77 (top 11) mB_ n_1;all_goals ac_rfl
theorem zZb:CC "law" 3 ["_law_script"] DP.zJd:=fun G=>by apply zE0 G 85 84 (top 12) mB_ n_5;all_goals ac_rfl
theorem walk {l:PySem.W.OpenLaw}{q:Program}{loose:List Str}{XP:(Str->Option Value)->Heap->Prop}{YP:World->Heap->Prop}{d:DefRec}{K:Params->PySem.W.Frag}(hn:l.most=some 63) (hdf:d.params.defaults=[])
  (hY:∀(w:World) (h:Heap),YP w h->(K w.params).In h)
  (F:∀(w:World) (mg:Str->Option Value) (fa:Addr) (h:Heap),(K w.params).In h->h.Ns mainGlobals mg->mg d.name=some (.ref fa)->
   ∃fd:FuncData,(∀(s:Shared) (u:Value),BindsTo s fd ⟨[u],[]⟩ [("_law_script",u)])/\∀base:Heap,(K w.params).In base->base.Ns mainGlobals mg->FnOk l.prog w (K w.params) mg base CX0 3 fa fd ["_law_script"] (spOf (K w.params) XE0 DP.zJd)):
  PySem.W.WalkO q loose XP YP l.row.toRowW d [] (fun f vs=>PySem.call f vs):=
 L2.walk_of (n:=63) (k:=3) (x:="_law_script") (CX:=fun _=>CX0) (sp:=fun w=>spOf (K w.params) XE0 DP.zJd) hn (by decide) hdf ⟨rfl,by decide,by decide⟩ hY F (fun _ _ a ns hl _ hS=>zKi (DP.law_ok ns hl) hS) fun _ _ _ _ _ z=>z
noncomputable abbrev dl:DefRec:=⟨"law",zBi (top 12),zAr (top 12),zA5 (top 12),match top 12 with|.FunctionDef _ _ _ _ _ _ _ _ _ p=>p|_=>⟨0,0,0,0⟩⟩
theorem all_mk {w:World}{h:Heap}{mg:Str->Option Value}{fa:Addr}(X:(KF w.params).In h) (G:h.Ns mainGlobals mg) (hfa:mg "law"=some (.ref fa)):∃fd:FuncData,(∀(s:Shared) (v:Value),BindsTo s fd ⟨[v],[]⟩ [("_law_script",v)])/\∀base:Heap,(KF w.params).In base->base.Ns mainGlobals mg->FnOk PySem.Challenge.pw_healfloor_k41_islands_put_together w (KF w.params) mg base CX0 3 fa fd ["_law_script"] (spOf (KF w.params) XE0 DP.zJd):=by
 have D:Gd (KF w.params) mg:=⟨fun x v e=>PySem.W.mg_of X G e,fun x e=>PySem.W.mg_none_of X G e⟩
 have F:=zM5 (K:=KF w.params) (f:=85) (cd:=84) (x:="law") (tq:=top 12) (pm:=mB_) (by kernel_rfl) (by kernel_rfl) (by kernel_rfl)
 have e:=hfa.symm.trans (D.a "law" (.ref 85) (by kernel_rfl))
 cases e
 refine⟨_,fun s v=>.of_eq rfl,fun base _ _=>fn_d F (zH0 (N:=n_5) (by kernel_rfl)) rfl rfl (b:=DP.zU3) ?_⟩
 have G:=D
 ac_rfl
end Law
open PySem PySem.W PyProof.Rows
set_option maxRecDepth 100000 in
theorem PySem.Challenge.cw_healfloor_k41_islands_put_together_holds : PySem.Challenge.rw_healfloor_k41_islands_put_together.Holds := by
 refine PySem.W.holds_law (by decide +kernel) fun said=>PySem.W.holds_open (r:=PySem.W.OpenLaw.row PySem.Challenge.rw_healfloor_k41_islands_put_together) (q:=Law.view) (loose:=[]) (Xt:=fun s=>xlAt Law.view [] s && recOk [] s) (XP:=XL Law.view []) (YP:=Hook.says Law.hk) (d:=Law.dl) (kwd:=[]) Law.left (Hook.of Law.hk) (Hook.keeps Law.hk) (fun s e=>xl_of s (Bool.and_eq_true_iff.mp e).1) XL.keeps (by kernel_rfl) (by kernel_rfl) (by kernel_rfl) (fun s e=>recFacts_of (Bool.and_eq_true_iff.mp e).2) (by kernel_rfl) said (by decide +kernel) ⟨by kernel_rfl,by kernel_rfl,by kernel_rfl,by kernel_rfl,by kernel_rfl,by decide +kernel⟩ ?hw ?hc
 case hw=>w_witness2
 case hc=>exact Law.walk (l:=PySem.Challenge.rw_healfloor_k41_islands_put_together) (K:=Law.KF) (by kernel_rfl) (by kernel_rfl) (fun w h Y=>PySem.W.kIn_of Y) fun w mg fa h KX G hmg=>Law.all_mk KX G hmg
#print axioms PySem.Challenge.cw_healfloor_k41_islands_put_together_holds
