import PyProof.Rows.All
import Wide.All
import OpenK.AllK
import Wide.FinOn
import Lean
import PyProof.EqAt
import PyProof.EqKinds
import PyProof.TupleCall
import PyProof.NeKinds
import PyProof.ZipIter
import KE.KSortTup
import PyProof.TupleKey
import PyProof.SetKind
import PyProof.IsRules
import PyProof.Rows.SetFrom
import PyProof.Rows.SortShell
import KE.KDictList
import KE.KDictSum
import PyProof.MinMaxWalk
import PyProof.Rows.CallKwBuiltin
import PyProof.TupleIter
import KE.KIntText
import PyProof.Rows.StrWeight2
import PyProof.Rows.StrNews
import PyProof.StrWalks
import PyProof.FString5
import PyProof.SliceStr2
import PyProof.FitsReplace
import PyProof.Rows.StrSplitCount
import PySem.Str
import PyProof.Rows.SortRuns
import PyProof.SetRoads
import PyProof.Draws
import PyProof.EnumStmt
import PyProof.Rows.EnumRows
import PyProof.CollectWalk
import PyProof.ListMulRoad
import PySem.Challenge.RW_healfloor_k72_points_in_hulls
set_option bootstrap.genMatcherCode false
set_option genSizeOf false
set_option compiler.extract_closed false
local macro_rules|`(tactic|nofun)=>`(tactic|first|assumption|lia)
noncomputable abbrev xa:=@PySem.wpAny_bind
noncomputable abbrev xc:=@if_pos
noncomputable abbrev xf:=@if_neg
noncomputable abbrev xg:=@PySem.wpAny_pure
noncomputable abbrev xh:=@Nat.le_refl
noncomputable abbrev xi:=@if_true
noncomputable abbrev xj:=@PySem.Heap.get?_push_of_some
noncomputable abbrev xk:=@List.mem_map
noncomputable abbrev xl:=@PySem.Heap.lt_size
noncomputable abbrev xm:=@List.mem_cons
noncomputable abbrev xn:=@List.length_map
noncomputable abbrev xo:=@Ne.symm
noncomputable abbrev xp:=@List.getElem?_eq_getElem
noncomputable abbrev xq:=@Nat.ne_of_lt
noncomputable abbrev xr:=@Nat.lt_of_lt_of_le
noncomputable abbrev xt:=@List.map_cons
noncomputable abbrev xu:=@PySem.Heap.get?_push_size
noncomputable abbrev xv:=@List.size_toArray
noncomputable abbrev xw:=@decide_eq_true
noncomputable abbrev xx:=@List.getElem?_eq_some_iff
noncomputable abbrev xy:=@PySem.W.mg_of
noncomputable abbrev xA:=@decide_eq_false
noncomputable abbrev xB:=@List.getElem?_cons_zero
noncomputable abbrev xC:=@List.mem_range
noncomputable abbrev xD:=@PySem.wpAny_field
noncomputable abbrev xE:=@Option.some.inj
noncomputable abbrev xF:=@PySem.wpAny_holding
noncomputable abbrev xG:=@List.map_map
noncomputable abbrev xH:=@Nat.le_trans
noncomputable abbrev xI:=@List.getElem?_set_ne
noncomputable abbrev xJ:=@Nat.lt_or_ge
noncomputable abbrev xK:=@List.getElem?_map
noncomputable abbrev xM:=@Bool.and_eq_true
noncomputable abbrev xN:=@List.getElem?_cons_succ
noncomputable abbrev xO:=@if_false
noncomputable abbrev xP:=@List.not_mem_nil
noncomputable abbrev xQ:=@or_false
noncomputable abbrev xR:=@Int.le_of_lt
noncomputable abbrev xS:=@List.mem_cons_self
noncomputable abbrev xT:=@Int.mul_nonneg
noncomputable abbrev xU:=@List.mem_of_getElem?
noncomputable abbrev xV:=@List.mem_singleton
noncomputable abbrev xW:=@List.mem_cons_of_mem
noncomputable abbrev xX:=@List.getElem?_append_left
noncomputable abbrev xY:=@List.length_cons
noncomputable abbrev xZ:=@Nat.lt_trans
noncomputable abbrev x9:=@Bool.false_eq_true
noncomputable abbrev va:=@Array.getElem?_eq_getElem
noncomputable abbrev vb:=@Nat.le_of_lt
noncomputable abbrev vc:=@List.mem_append
noncomputable abbrev vd:=@PySem.wpAny_newObj_type
noncomputable abbrev ve:=@PySem.Heap.size_push
noncomputable abbrev vf:=@Nat.zero_le
noncomputable abbrev vg:=@List.lookup_cons
noncomputable abbrev vh:=@PySem.W.mg_none_of
noncomputable abbrev vk:=@PySem.wpAny_call_entry
noncomputable abbrev vm:=@PySem.wpAny_seqItems
noncomputable abbrev vn:=@PySem.PassesOwn.never
noncomputable abbrev vo:=@List.getElem?_set_self
noncomputable abbrev vp:=@List.mem_append_right
noncomputable abbrev vq:=@List.getElem?_append_right
noncomputable abbrev vt:=@Nat.lt_irrefl
noncomputable abbrev vv:=@List.all_eq_true
noncomputable abbrev vw:=@List.mem_iff_getElem
noncomputable abbrev vx:=@Int.emod_lt_of_pos
noncomputable abbrev vy:=@Int.emod_nonneg
noncomputable abbrev vz:=@Option.map_some
noncomputable abbrev vA:=@Int.mul_pos
noncomputable abbrev vB:=@PySem.wpAny_mono
noncomputable abbrev vC:=@Nat.ne_of_gt
noncomputable abbrev vD:=@List.length_append
noncomputable abbrev vE:=@List.map_nil
noncomputable abbrev vF:=@PySem.wpAny_callSpecial?_slot
noncomputable abbrev vG:=@Array.getD_eq_getD_getElem?
noncomputable abbrev vH:=@List.length_take
noncomputable abbrev vI:=@List.length_nil
noncomputable abbrev vJ:=@PySem.Heap.get?_update_self
noncomputable abbrev vK:=@List.getElem?_eq_none
noncomputable abbrev vL:=@List.getD_eq_getElem?_getD
noncomputable abbrev vM:=@List.pairwise_cons
noncomputable abbrev vN:=@Classical.byContradiction
noncomputable abbrev vO:=@Nat.zero_add
noncomputable abbrev vP:=@Nat.mod_lt
noncomputable abbrev vQ:=@List.set_cons_succ
noncomputable abbrev vR:=@List.map_append
noncomputable abbrev vS:=@decide_eq_decide
noncomputable abbrev vT:=@List.mem_reverse
noncomputable abbrev vU:=@Nat.mod_eq_of_lt
noncomputable abbrev vV:=@Int.mul_le_mul_of_nonneg_right
noncomputable abbrev vW:=@PySem.sizeLine_eq
noncomputable abbrev vX:=@List.nodup_cons
noncomputable abbrev vY:=@List.length_drop
noncomputable abbrev vZ:=@PyProof.Rows.slot_tuple_getitem
noncomputable abbrev v5:=@List.getElem_mem
noncomputable abbrev v7:=@Array.getElem?_eq_some_iff
noncomputable abbrev v8:=@List.set_cons_zero
noncomputable abbrev v9:=@PyProof.Rows.callWith_type1
noncomputable abbrev ua:=@PySem.wpAny_Call_Name_kw
noncomputable abbrev ub:=@List.getElem?_take_of_lt
noncomputable abbrev uc:=@PySem.wpAny_typeOf
noncomputable abbrev ud:=@List.nil_append
noncomputable abbrev ue:=@PySem.wpAny_setState_of
noncomputable abbrev uf:=@PySem.F.slot_zip_next
noncomputable abbrev ug:=@PySem.F.called_set
noncomputable abbrev uh:=@Int.le_total
noncomputable abbrev ui:=@Int.mul_le_mul_of_nonneg_left
noncomputable abbrev uj:=@PySem.boot_len
noncomputable abbrev uk:=@PySem.F.plainAttrs_list
noncomputable abbrev um:=@List.filterMap_cons
noncomputable abbrev uo:=@PySem.wpAny_passesOwn
noncomputable abbrev uq:=@PySem.Heap.get?_update_other
noncomputable abbrev ur:=@List.replicate_succ
noncomputable abbrev uu:=@Nat.le_of_not_lt
noncomputable abbrev uv:=@List.forIn_cons
noncomputable abbrev uw:=@Nat.lt_succ_of_lt
noncomputable abbrev uy:=@PySem.wpAny_specialOf
noncomputable abbrev uz:=@List.length_reverse
noncomputable abbrev uA:=@List.all_cons
noncomputable abbrev uB:=@List.foldl_cons
noncomputable abbrev uC:=@PySem.Heap.SameBut.update
noncomputable abbrev uD:=@Nat.le_add_right
noncomputable abbrev uE:=@PySem.wpAny_setField_rec
noncomputable abbrev uF:=@PySem.wpAny_truthy_bool
noncomputable abbrev uG:=@Array.length_toList
noncomputable abbrev uH:=@PySem.Calls.spliced_nil
noncomputable abbrev uI:=@PySem.Calls.spliced_cons
noncomputable abbrev uJ:=@PySem.mem_of_lookup
noncomputable abbrev uK:=@List.find?_cons
noncomputable abbrev uL:=@List.mem_iff_getElem?
noncomputable abbrev uM:=@List.forIn_nil
noncomputable abbrev uN:=@PySem.typeLookup_type
noncomputable abbrev uO:=@PySem.builtinLookup_eq_fast
noncomputable abbrev uP:=@PySem.plainId_quiet
noncomputable abbrev uQ:=@Bool.eq_iff_iff
noncomputable abbrev uR:=@PySem.codeAny_builtin
noncomputable abbrev uS:=@PySem.wpAny_attempt
noncomputable abbrev uT:=@Int.toNat_natCast
noncomputable abbrev uU:=@PySem.Obj.data_mapFields
noncomputable abbrev uV:=@decide_eq_true_eq
noncomputable abbrev uW:=@List.map_congr_left
noncomputable abbrev uX:=@Nat.pow_le_pow_right
noncomputable abbrev uY:=@List.length_zip
noncomputable abbrev uZ:=@decide_eq_true_iff
noncomputable abbrev u3:=@Int.mul_nonpos_of_nonneg_of_nonpos
noncomputable abbrev u4:=@PySem.F.slot_list_append
noncomputable abbrev u5:=@PySem.F.type_list_append
noncomputable abbrev u6:=@List.mem_append_left
noncomputable abbrev u7:=@List.mem_filterMap
noncomputable abbrev u9:=@List.reverse_cons
noncomputable abbrev ya:=@Nat.lt_of_le_of_lt
noncomputable abbrev yb:=@Bool.not_eq_true
noncomputable abbrev yc:=@PySem.wpAny_isInstance
noncomputable abbrev yd:=@PySem.F.plain_extend_loop
noncomputable abbrev ye:=@PySem.wpAny_updateSeq
noncomputable abbrev yf:=@PySem.wpAny_pyIter_list
noncomputable abbrev yg:=@PySem.Around.under_plainId
noncomputable abbrev yh:=@PySem.wpAny_askSetting
noncomputable abbrev yi:=@Array.getElem?_eq_none
noncomputable abbrev yj:=@List.pairwise_map
noncomputable abbrev yk:=@PySem.W.kia_one
noncomputable abbrev ym:=@Nat.le_of_ble_eq_true
noncomputable abbrev yn:=@PyProof.Rows.boot_max
noncomputable abbrev yo:=@PyProof.Rows.boot_isinstance
noncomputable abbrev yp:=@PyProof.Rows.boot_tuple
noncomputable abbrev yq:=@PyProof.Rows.boot_min
noncomputable abbrev yr:=@Array.getElem?_toList
noncomputable abbrev yt:=@PyProof.Rows.boot_list
noncomputable abbrev yu:=@List.pairwise_iff_getElem
noncomputable abbrev yv:=@PyProof.Rows.F.plain_set_update_loop
noncomputable abbrev yw:=@PySem.F.slot_tuple_iterator_next
noncomputable abbrev yx:=@List.eq_nil_of_length_eq_zero
noncomputable abbrev yy:=@List.getElem_of_mem
noncomputable abbrev yz:=@Int.mul_fdiv_cancel_left
noncomputable abbrev yA:=@Int.mul_nonneg_of_nonpos_of_nonpos
noncomputable abbrev yB:=@List.exists_cons_of_length_pos
set_option linter.all false
set_option maxRecDepth 100000
set_option Elab.async false
set_option maxHeartbeats 8000000
namespace L2
open PySem PySem.Spec PyProof.Rows
noncomputable abbrev Key:=Sum Int Str
noncomputable def zN2:Key->Value->Bool
 | .inl k,v=>Value.isInt k v
 | .inr x,v=>Value.isStrOf x v
noncomputable def keyH (w:World):Key->Int
 | .inl k=>hashInt k
 | .inr x=>hashStr w x
theorem zB2:∀{k:Key}{v:Value},zN2 k v=true->(∃i t,k=Sum.inl i/\v=Value.int i t)\/(∃x t,k=Sum.inr x/\v=Value.str x t)
 | .inl i,v,h=>by
  obtain⟨t,e⟩:=Value.isInt_shape (k:=i) (v:=v) h
  exact .inl ⟨i,t,rfl,e⟩
 | .inr x,v,h=>by
  obtain⟨t,e⟩:=Value.isStrOf_shape (x:=x) (v:=v) h
  exact .inr ⟨x,t,rfl,e⟩
theorem zPk (i:Int) (t:Tok):zN2 (.inl i) (.int i t)=true:=by simp[zN2,Value.isInt]
theorem zPj (x:Str) (t:Tok):zN2 (.inr x) (.str x t)=true:=by simp[zN2,Value.isStrOf]
theorem zZa (a b:Int):decide ((Sum.inl a:Key)=Sum.inl b)=(a == b):=by
 by_cases e:a=b
 ·subst e;simp
 ·have h:¬ (Sum.inl a:Key)=Sum.inl b:=fun q=>e (Sum.inl.inj q)
  rw[xA h]
  exact(beq_eq_false_iff_ne.mpr e).symm
theorem zZ7 (a b:Str):decide ((Sum.inr a:Key)=Sum.inr b)=decide (a=b):=by
 by_cases e:a=b
 ·subst e;simp
 ·have h:¬ (Sum.inr a:Key)=Sum.inr b:=fun q=>e (Sum.inr.inj q)
  rw[xA h,xA e]
theorem zZ9 (a:Int) (b:Str):decide ((Sum.inl a:Key)=Sum.inr b)=false:=xA (fun q=>nomatch q)
theorem zZ8 (a:Str) (b:Int):decide ((Sum.inr a:Key)=Sum.inl b)=false:=xA (fun q=>nomatch q)
noncomputable def zBg (prog:Program) (w:World):PySem.KeyKind prog w Key where
 is:=zN2
 hash:=keyH w
 inj:=fun v a b ha hb=>by
  rcases zB2 ha with⟨i,t,rfl,rfl⟩|⟨x,t,rfl,rfl⟩
  ·rcases zB2 hb with⟨j,u,rfl,e⟩|⟨y,u,rfl,e⟩
   ·injection e with e1 _;rw[e1]
   ·exact nomatch e
  ·rcases zB2 hb with⟨j,u,rfl,e⟩|⟨y,u,rfl,e⟩
   ·exact nomatch e
   ·injection e with e1 _;rw[e1]
 byValue:=fun k v h=>by
  rcases zB2 h with⟨i,t,rfl,rfl⟩|⟨x,t,rfl,rfl⟩ <;> rfl
 pyHash:=fun hv h=>by
  rcases zB2 hv with⟨i,t,rfl,rfl⟩|⟨x,t,rfl,rfl⟩
  ·exact wpAny_pyHash_int h
  ·exact wpAny_pyHash_str h
 eqBool:=fun hu hv h=>by
  rcases zB2 hu with⟨i,t,rfl,rfl⟩|⟨x,t,rfl,rfl⟩
  ·rcases zB2 hv with⟨j,u,rfl,rfl⟩|⟨y,u,rfl,rfl⟩
   ·rw[zZa]at h;exact wpAny_eqBool_int h
   ·rw[zZ9]at h;exact SeqAt.EqAt.int_str i t y u _ _ _ _ h
  ·rcases zB2 hv with⟨j,u,rfl,rfl⟩|⟨y,u,rfl,rfl⟩
   ·rw[zZ8]at h;exact SeqAt.EqAt.str_int x t j u _ _ _ _ h
   ·rw[zZ7]at h;exact wpAny_eqBool_str h
 «strs»:=fun k x t v h=>by
  rcases zB2 h with⟨i,u,rfl,e⟩|⟨y,u,rfl,e⟩
  ·exact nomatch e
  ·injection e with e1 _
   subst e1
   cases v <;> rfl
theorem zKe (prog:Program) (w:World) (i:Int) (t:Tok):(zBg prog w).is (.inl i) (.int i t)=true:=zPk i t
theorem zKd (prog:Program) (w:World) (x:Str) (t:Tok):(zBg prog w).is (.inr x) (.str x t)=true:=zPj x t
end L2
namespace L2
open PySem PySem.Spec PyProof.Rows
inductive V where
 | non|bl (b:Bool)|int (i:Int)|str (x:Str)|byt (b:Array UInt8)|flt (b:UInt64)|ref (a:Addr)|ty (n:String)
 deriving DecidableEq
noncomputable def RelV:V->Value->Prop
 | .non,u=>u=Value.none
 | .bl b,u=>u=Value.bool b
 | .int i,u=>∃t,u=Value.int i t
 | .str x,u=>∃t,u=Value.str x t
 | .byt b,u=>∃t,u=Value.bytes b t
 | .flt b,u=>∃t,u=Value.float b t
 | .ref a,u=>u=Value.ref a
 | .ty n,u=>u=Value.type n
noncomputable abbrev Vals:List V->List Value->Prop:=Paired RelV
theorem Vals.length {xs:List V}{us:List Value}(r:Vals xs us):xs.length=us.length:=Paired.length r
theorem Vals.get:∀{xs:List V}{us:List Value}{i:Nat}{x:V},Vals xs us->xs[i]?=some x->∃u,us[i]?=some u/\RelV x u
 | _,_,_,_,.nil,e=>by simp at e
 | _,_,0,_,.cons r _,e=>by simp at e;subst e;exact⟨_,rfl,r⟩
 | _,_,i+1,x,.cons _ t,e=>by
  obtain⟨u,h1,h2⟩:=Vals.get (i:=i) (x:=x) t (by simpa using e)
  exact⟨u,by simpa using h1,h2⟩
theorem Vals.append:∀{xs ys:List V}{us ws:List Value},Vals xs us->Vals ys ws->Vals (xs++ys) (us++ws)
 | _,_,_,_,.nil,s=>s
 | _,_,_,_,.cons r t,s=>.cons r (Vals.append t s)
theorem Vals.take:∀{xs:List V}{us:List Value}(n:Nat),Vals xs us->Vals (xs.take n) (us.take n)
 | _,_,0,_=>.nil
 | _,_,_+1,.nil=>.nil
 | _,_,n+1,.cons r t=>.cons r (Vals.take n t)
theorem Vals.drop:∀{xs:List V}{us:List Value}(n:Nat),Vals xs us->Vals (xs.drop n) (us.drop n)
 | _,_,0,r=>r
 | _,_,_+1,.nil=>.nil
 | _,_,n+1,.cons _ t=>Vals.drop n t
noncomputable def RelO:Option V->Option Value->Prop
 | some v,some u=>RelV v u
 | none,none=>True
 | _,_=>False
noncomputable def KV {κ:Type}:List (κ × V)->List (κ × Value)->Prop:=Paired fun(p:κ × V) (q:κ × Value)=>p.1=q.1/\RelV p.2 q.2
noncomputable def kV:Key->V
 | .inl i=>.int i
 | .inr x=>.str x
inductive HO where
 /-- a list -/
 | lst (xs:List V)
 /-- a tuple (never changes) -/
 | tup (xs:List V)
 /-- a dict whose keys are ints and texts;one whose keys are tuples of ints and texts (the empty one is both) -/
 | dK (kvs:List (Key × V))|dT (kvs:List (List Key × V))
 /-- a set of ints: its members,its size -/
 | set (S:Int->Bool) (n:Nat)
 /-- an instance of the class at C,its dict at dx,its attributes -/
 | ins (C dx:Addr) (fs:List (Str × V))
 /-- the dict of the instance at x -/
 | own (x:Addr)
 /-- the dict of an exception -/
 | xd (fs:List (Str × V))
 /-- a bound method,f of x -/
 | met (f x:Addr)
 /-- a range object lo,lo+1,.. below hi -/
 | rng (lo hi:Int)
 /-- a thing that is known to the object (the script;a dict while a loop walks it): read,never written while it is so -/
 | frz (o:Obj) (u:HO)
 /-- a code object's table -/
 | tbl (ps:Array Value)
 /-- any other thing,by what is true of its one object (a def of one's own: SetO a S n:=HO.ext fun h=>..) -/
 | ext (φ:Heap->Prop)
noncomputable abbrev Hp:=Addr->Option HO
noncomputable def upd (H:Hp) (a:Addr) (o:HO):Hp:=fun b=>if b=a then some o else H b
theorem zAu {H:Hp}{a:Addr}{o:HO}:upd H a o a=some o:=by unfold upd;rw[xc rfl]
theorem zAm {H:Hp}{a b:Addr}{o:HO}(h:b≠a):upd H a o b=H b:=by unfold upd;rw[xf h]
theorem zAo {H:Hp}{a b:Addr}{o:HO}(h:H a=some o) (h':H b=none):a≠b:=by
 intro e;subst e;rw[h]at h';cases h'
section
variable (P:Program) (w:World)
noncomputable def ObjOk (H:Hp) (h:Heap) (a:Addr):HO->Prop
 | .lst xs=>xs.length<=sizeLine/\∃(its:List Value) (n:Nat),Vals xs its/\h.get? a=some { cls:=.type "list",data:=.seq its.toArray n }
 | .tup xs=>xs.length<=sizeLine/\∃its:List Value,Vals xs its/\IsTup h a its.toArray
 | .dK kvs=>kvs.length<=sizeLine/\(a == sysModules)=false/\∃vs,KV kvs vs/\h.DictOf (zBg P w) a vs
 | .dT kvs=>kvs.length<=sizeLine/\(a == sysModules)=false/\∃xs:List (List Key × Addr × Value),
   Paired (fun(p:List Key × V) (q:List Key × Addr × Value)=>p.1=q.1/\H q.2.1=some (.tup (p.1.map kV))/\RelV p.2 q.2.2) kvs xs /\
   ∃o es ep,h.get? a=some o/\o.ExactDict/\o.data=.dict es ep/\es.toList=xs.map (entryOfKey (tupleKind (zBg P w)))/\(xs.map (·.1)).Nodup
 | .set S n=>h.SetOf (intKind P w) a S n
 | .ins C dx fs=>H dx=some (.own a)/\fs.length<=1000/\dx≠a/\h.get? a=some (PySem.W.instObj C dx) /\
   ∃mA,h.Ns1 dx mA/\(∀f,RelO (fs.lookup f) (mA f))/\PySem.Within mA (fs.map (·.1))
 | .own _=>∃o,h.get? a=some o
 | .xd fs=>∃mA,h.Ns1 a mA/\∀f,RelO (fs.lookup f) (mA f)
 | .rng lo hi=>∃t u v,h.get? a=some { cls:=.type "range",data:=.fields #[.int lo t,.int hi u,.int 1 v] }
 | .frz o u=>h.get? a=some o/\ObjOk H h a u
 | .tbl ps=>h.get? a=some { cls:=.none,data:=.fields ps }
 | .met f x=>h.get? a=some (PySem.W.methodObj (.ref f) (.ref x))
 | .ext φ=>φ h/\(∃o,h.get? a=some o)/\∀h1 h2:Heap,φ h1->(∀o,h1.get? a=some o->h2.get? a=some o)->φ h2
noncomputable def HOk (H:Hp) (h:Heap):Prop:=∀a o,H a=some o->ObjOk P w H h a o
end
section
variable {P:Program}{w:World}{H H':Hp}{h h':Heap}{a:Addr}{o:HO}
theorem ObjOk.lt (x:ObjOk P w H h a o):a<h.objs.size:=by
 cases o with
 | lst xs=>obtain⟨_,_,_,_,e⟩:=x;exact xl e
 | tup xs=>obtain⟨_,_,_,p⟩:=x;exact p.lt
 | dK kvs=>obtain⟨_,_,_,_,o,_,_,e,_⟩:=x;exact xl e
 | dT kvs=>obtain⟨_,_,_,_,o,_,_,e,_⟩:=x;exact xl e
 | set S n=>obtain⟨o,_,_,_,e,_⟩:=x;exact xl e
 | ins C dx fs=>obtain⟨_,_,_,e,_⟩:=x;exact xl e
 | own y=>obtain⟨_,e⟩:=x;exact xl e
 | xd fs=>obtain⟨_,⟨_,_,_,e,_⟩,_⟩:=x;exact xl e
 | rng lo hi=>obtain⟨_,_,_,e⟩:=x;exact xl e
 | frz ob u=>obtain⟨e,_⟩:=x;exact xl e
 | tbl ps=>exact xl (show h.get? a=some _ from x)
 | met f y=>exact xl (show h.get? a=some _ from x)
 | ext φ=>obtain⟨_,⟨_,e⟩,_⟩:=x;exact xl e
theorem Paired.mapP {α β:Type}{F G:α->β->Prop}:∀{l₁:List α}{l₂:List β},Paired F l₁ l₂->(∀a b,F a b->G a b)->Paired G l₁ l₂
 | _,_,.nil,_=>.nil
 | _,_,.cons r t,f=>.cons (f _ _ r) (Paired.mapP t f)
theorem ObjOk.stay (x:ObjOk P w H h a o) (k:∀b u,(b=a\/H b=some (.own a))->h.get? b=some u->h'.get? b=some u)
  (ho:∀b,H b=some (.own a)->H' b=some (.own a)) (ht:∀b xs,H b=some (.tup xs)->H' b=some (.tup xs)):ObjOk P w H' h' a o:=by
 induction o with
 | lst xs=>obtain⟨z,its,n,r,e⟩:=x;exact⟨z,its,n,r,k _ _ (.inl rfl) e⟩
 | tup xs=>obtain⟨z,its,r,ob,e,c⟩:=x;exact⟨z,its,r,ob,k _ _ (.inl rfl) e,c⟩
 | dK kvs=>obtain⟨z,y,vs,r,ob,es,ep,e,c⟩:=x;exact⟨z,y,vs,r,ob,es,ep,k _ _ (.inl rfl) e,c⟩
 | dT kvs=>
  obtain⟨z,y,xs,r,ob,es,ep,e,c⟩:=x
  exact⟨z,y,xs,Paired.mapP r fun p q z=>⟨z.1,ht _ _ z.2.1,z.2.2⟩,ob,es,ep,k _ _ (.inl rfl) e,c⟩
 | set S n=>obtain⟨ob,es,ep,t,e,c⟩:=x;exact⟨ob,es,ep,t,k _ _ (.inl rfl) e,c⟩
 | ins C dx fs=>
  obtain⟨d,z,ne,e,mA,⟨od,es,ep,e2,c⟩,r⟩:=x
  exact⟨ho _ d,z,ne,k _ _ (.inl rfl) e,mA,⟨od,es,ep,k _ _ (.inr d) e2,c⟩,r⟩
 | own y=>obtain⟨ob,e⟩:=x;exact⟨ob,k _ _ (.inl rfl) e⟩
 | xd fs=>obtain⟨mA,⟨od,es,ep,e,c⟩,r⟩:=x;exact⟨mA,⟨od,es,ep,k _ _ (.inl rfl) e,c⟩,r⟩
 | rng lo hi=>obtain⟨t,u,v,e⟩:=x;exact⟨t,u,v,k _ _ (.inl rfl) e⟩
 | frz ob u ih=>obtain⟨e,q⟩:=x;exact⟨k _ _ (.inl rfl) e,ih q⟩
 | tbl ps=>
  have e:h.get? a=some { cls:=.none,data:=.fields ps }:=x
  show h'.get? a=some { cls:=.none,data:=.fields ps }
  exact k a _ (.inl rfl) e
 | met f y=>
  have e:h.get? a=some (PySem.W.methodObj (.ref f) (.ref y)):=x
  show h'.get? a=some (PySem.W.methodObj (.ref f) (.ref y))
  exact k a _ (.inl rfl) e
 | ext φ=>obtain⟨p,⟨o,e⟩,st⟩:=x;exact⟨st _ _ p fun o q=>k _ _ (.inl rfl) q,⟨o,k _ _ (.inl rfl) e⟩,st⟩
theorem HOk.lt (x:HOk P w H h) (e:H a=some o):a<h.objs.size:=(x a o e).lt
theorem HOk.fresh (x:HOk P w H h) (e:h.objs.size<=a):H a=none:=by
 cases q:H a with
 | none=>rfl
 | some u=>exact absurd (xr (x.lt q) e) (vt _)
theorem HOk.kept (x:HOk P w H h) (k:∀b u,h.get? b=some u->h'.get? b=some u):HOk P w H h':=fun a o e=>
 (x a o e).stay (fun b u _ q=>k b u q) (fun _ q=>q) fun _ _ q=>q
theorem HOk.laid (x:HOk P w H h) (k:∀b u,h.get? b=some u->h'.get? b=some u) (hp:h.objs.size<=a) (new:ObjOk P w (upd H a o) h' a o):HOk P w (upd H a o) h':=fun b u e=>by
 have hn:=x.fresh hp
 by_cases hb:b=a
 ·subst hb;rw[zAu]at e;cases e;exact new
 ·rw[zAm hb]at e
  exact(x b u e).stay (fun c v _ q=>k c v q) (fun c q=>by rw[zAm (zAo q hn)];exact q) fun c xs q=>by rw[zAm (zAo q hn)];exact q
end
noncomputable def Rd (H:Hp) (a:Addr) (u:HO):Prop:=H a=some u\/∃o,H a=some (.frz o u)
theorem Rd.ok {P:Program}{w:World}{H:Hp}{h:Heap}{a:Addr}{u:HO}(r:Rd H a u) (x:HOk P w H h):ObjOk P w H h a u:=by
 rcases r with r|⟨o,r⟩
 ·exact x a u r
 ·obtain⟨_,q⟩:=x a _ r
  exact q
noncomputable def Mut:Option HO->Prop
 | some (.lst _)=>True
 | some (.dK _)=>True
 | some (.dT _)=>True
 | some (.set _ _)=>True
 | some (.ins _ _ _)=>True
 | some (.ext _)=>True
 | _=>False
section
variable {P:Program}{w:World}{H:Hp}{h h':Heap}{x e:Addr}{o':HO}
theorem HOk.write (ok:HOk P w H h) (mu:Mut (H x)) (he:e=x\/H e=some (.own x)) (k:∀b u,b≠e->h.get? b=some u->h'.get? b=some u) (heo:∃u,h'.get? e=some u)
  (new:ObjOk P w (upd H x o') h' x o'):HOk P w (upd H x o') h':=fun b u q=>by
 have nown:∀c y,H c=some (.own y)->c≠x:=fun c y r z=>by subst z;rw[r]at mu;exact mu
 have ntup:∀c xs,H c=some (.tup xs)->c≠x:=fun c xs r z=>by subst z;rw[r]at mu;exact mu
 by_cases hb:b=x
 ·subst hb;rw[zAu]at q;cases q;exact new
 ·rw[zAm hb]at q
  by_cases hbe:b=e
  ·have q':H b=some (.own x):=by
    rcases he with z|z
    ·exact absurd (hbe.trans z) hb
    ·rw[hbe];exact z
   rw[q]at q';cases q'
   obtain⟨v,hv⟩:=heo
   exact⟨v,by rw[hbe];exact hv⟩
  ·refine(ok b u q).stay (fun c v hc r=>k c v ?_ r) (fun c r=>by rw[zAm (nown c b r)];exact r) fun c xs r=>by rw[zAm (ntup c xs r)];exact r
   rcases hc with rfl|hc
   ·exact hbe
   ·rintro rfl
    rcases he with z|z
    ·exact nown c b hc z
    ·rw[hc]at z;cases z;exact hb rfl
end
structure Un (fs ex:List Addr) (H H':Hp) (h h':Heap):Prop where
 keep:∀b o,h.get? b=some o->H b=none->b ∉ fs->b ∉ ex->h'.get? b=some o
 slot:∀b o,h.get? b=some o->H b=none->b∈fs->b ∉ ex->∃sl,h'.get? b=some { o with slots:=sl }
 free:∀b o,h.get? b=some o->H b=none->b ∉ ex->H' b=none
 there:∀b o,h.get? b=some o->b ∉ ex->∃o',h'.get? b=some o'
 tups:∀b xs,H b=some (.tup xs)->H' b=some (.tup xs)
 frzs:∀b o u,H b=some (.frz o u)->H' b=some (.frz o u)
 tbls:∀b ps,H b=some (.tbl ps)->∃more,H' b=some (.tbl (ps++more))
section
variable {fs fs' ex ex':List Addr}{H H1 H2:Hp}{h h1 h2 h':Heap}{a x e:Addr}{o:HO}
theorem Un.any (u:Un fs ex H H1 h h1) {b:Addr}{ob:Obj}(q:h.get? b=some ob) (n:H b=none) (hx:b ∉ ex):∃sl,h1.get? b=some { ob with slots:=sl }:=by
 by_cases hb:b∈fs
 ·exact u.slot b ob q n hb hx
 ·exact⟨ob.slots,u.keep b ob q n hb hx⟩
theorem Un.kept (k:∀b u,h.get? b=some u->h'.get? b=some u):Un fs ex H H h h':=
 ⟨fun b ob q _ _ _=>k b ob q,fun b ob q _ _ _=>⟨ob.slots,k b ob q⟩,fun _ _ _ n _=>n,fun b ob q _=>⟨ob,k b ob q⟩,fun _ _ q=>q,fun _ _ _ q=>q,fun _ ps q=>⟨#[],by rw[q];simp⟩⟩
theorem Un.refl:Un fs ex H H h h:=Un.kept fun _ _ q=>q
theorem Un.laid (k:∀b u,h.get? b=some u->h'.get? b=some u) (hp:h.objs.size<=a) (hn:H a=none):Un fs ex H (upd H a o) h h' where
 keep:=fun b u q _ _ _=>k b u q
 slot:=fun b u q _ _ _=>⟨u.slots,k b u q⟩
 free:=fun b u q n _=>by rw[zAm (xq (xr (xl q) hp))];exact n
 there:=fun b u q _=>⟨u,k b u q⟩
 tups:=fun b xs q=>by rw[zAm (zAo q hn)];exact q
 frzs:=fun b u xs q=>by rw[zAm (zAo q hn)];exact q
 tbls:=fun b ps q=>⟨#[],by rw[zAm (zAo q hn),q];simp⟩
theorem Un.write (mu:Mut (H x)) (he:e=x\/H e=some (.own x)) (k:∀b u,b≠e->h.get? b=some u->h'.get? b=some u) (heo:∃u,h'.get? e=some u):Un fs ex H (upd H x o) h h':=by
 have hx:∀b,H b=none->b≠x:=fun b n z=>by subst z;rw[n]at mu;exact mu
 have hb:∀b,H b=none->b≠e:=fun b n z=>by
  subst z
  rcases he with r|r
  ·exact hx b n r
  ·rw[n]at r;cases r
 have hm:∀b u,H b=some u->¬ Mut (some u)->b≠x:=fun b u q nm z=>by subst z;rw[q]at mu;exact nm mu
 refine⟨fun b u q n _ _=>k b u (hb b n) q,fun b u q n _ _=>⟨u.slots,k b u (hb b n) q⟩,fun b u q n _=>by rw[zAm (hx b n)];exact n,fun b u q _=>?_,
  fun b xs q=>by rw[zAm (hm b _ q fun z=>z)];exact q,fun b u xs q=>by rw[zAm (hm b _ q fun z=>z)];exact q,fun b ps q=>⟨#[],by rw[zAm (hm b _ q fun z=>z),q];simp⟩⟩
 by_cases hbe:b=e
 ·subst hbe;exact heo
 ·exact⟨u,k b u hbe q⟩
end
noncomputable def trk (h:Heap) (H:Hp):List Addr:=(List.range h.objs.size).filter fun a=>(H a).isSome
noncomputable def hidT (h:Heap) (H:Hp):Heap:=PySem.W.hideAll h (trk h H)
theorem zPv (h:Heap) (H:Hp):(hidT h H).objs.size=h.objs.size:=PySem.W.hideAll_size _ _
theorem zSf {h:Heap}{H:Hp}{b:Addr}{o:Obj}(e:h.get? b=some o) (n:H b=none):(hidT h H).get? b=some o:=
 PySem.W.hideAll_get _ e fun hm=>by
  have q:(H b).isSome=true:=(List.mem_filter.mp hm).2
  rw[n]at q;simp at q
theorem zVr {h:Heap}{H:Hp}{b:Addr}{o:Obj}(e:(hidT h H).get? b=some o):h.get? b=some o/\H b=none:=by
 have e':h.get? b=some o:=PySem.W.of_hideAll (trk h H) e
 refine⟨e',?_⟩
 cases q:H b with
 | none=>rfl
 | some x=>
  have hm:b∈trk h H:=List.mem_filter.mpr ⟨xC.mpr (xl e'),by simp[q]⟩
  have z:(hidT h H).get? b=none:=PySem.W.hideAll_none (trk h H) hm
  rw[z]at e;cases e
noncomputable def zX4 (g h:Heap) (L:Addr):List (Addr × Obj):=(List.range h.objs.size).filterMap fun a=>if a=L\/(g.get? a).isSome=true then none else(h.get? a).map fun o=>(a,o)
noncomputable def rest (g h:Heap) (L d:Addr):List (Addr × Obj):=(zX4 g h L).filter fun p=>decide (p.1≠d)
end L2
namespace L2
open PySem PySem.Spec PyProof.Rows
structure Mod (K:PySem.W.Frag) (mg:Str->Option Value) (base:Heap):Prop where
 kin:K.In base
 glob:base.Ns mainGlobals mg
 blt:∃mb,base.Ns builtinsNs mb/\∀x:Str,x≠"__name__"->mb x=bootBuiltins x
 nolimit:base.NoLimit
/-- the context: a def's body (or a comprehension's block) running. base: fixed through the whole law;s₀,H₀: the entry;outer: the frames whose slots others may change (a def's callers);stack: all frames that run;
   ex: iterators that were made ahead of the entry and are walked here (a comprehension's);fn: the names whose cells were made at the entry (a def: all;a comprehension's block: its own);calm: not within an except suite;pn: pins that every state bears;xe: what is wanted of an exception that leaves the code -/
structure Cx where
  prog:Program
  w:World
  K:PySem.W.Frag
  mg:Str->Option Value
  base:Heap
  A:Around
  N:List Str
  s₀:Shared
  H₀:Hp
  env:Env
  outer:List Env
  stack:List Env
  ex:List Addr
  fn:Str->Bool
  calm:Bool
  pn:List (Addr × Obj)
  xe:Value->Shared->Prop
noncomputable def frs (l:List Env):List Addr:=l.filterMap (·.frame)
noncomputable abbrev Cx.fs (X:Cx):List Addr:=frs X.outer
noncomputable def Vis (sc:Scope) (x:Str):Prop:=sc.names.lookup x=some .local\/sc.names.lookup x=some .cell\/sc.names.lookup x=some .free
noncomputable def Loc (sc:Scope) (x:Str):Prop:=sc.names.lookup x=some .local\/sc.names.lookup x=some .cell
noncomputable def Look (env:Env) (h:Heap) (m:Str->Option Value) (x:Str) (u:Value):Prop:=
 (env.kindOf x=some .local/\m x=some u)\/((env.kindOf x=some .cell\/env.kindOf x=some .free)/\∃c,env.cells.lookup x=some c/\h.IsCell c (some u))
structure Cx.Ok (X:Cx):Prop where
 mod:Mod X.K X.mg X.base
 kind:X.env.scope.kind=.function
 glob:X.env.globals=mainGlobals
 blt:X.env.builtins=builtinsNs
 above:X.s₀.heap.objs.size<=X.env.locals
 inj:∀x y c,X.env.cells.lookup x=some c->X.env.cells.lookup y=some c->x=y
 has:∀x,(X.env.kindOf x=some .cell\/X.env.kindOf x=some .free)->∃c,X.env.cells.lookup x=some c
 cab:∀x c,X.fn x=true->X.env.cells.lookup x=some c->X.s₀.heap.objs.size<=c
 hd:X.calm=true->X.A.handled=none
 frames:X.A.frames=some X.stack
 stk:X.stack=X.outer\/(X.stack=X.env::X.outer/\X.env.frame=some X.env.locals)
 exf:∀b∈X.ex,b≠X.env.locals/\∀x c,X.env.cells.lookup x=some c->c≠b
 bs:∀b o,X.base.get? b=some o->X.s₀.heap.get? b=some o/\X.H₀ b=none
 bsz:X.base.objs.size<=X.s₀.heap.objs.size
 noex:∀b o,X.base.get? b=some o->b ∉ X.ex
 exfs:∀b∈X.ex,b ∉ X.fs
 funs:X.s₀.heap.FunFrames X.base X.outer
 frf:∀b∈X.fs,X.H₀ b=none
structure Inv (X:Cx) (pins:List (Addr × Obj)) (σ:List (Option V)) (H:Hp) (s:Shared):Prop where
 ok:X.Ok
 os:s.os=X.s₀.os
 bare:AllBare s.gens
 base:Un X.fs X.ex X.H₀ H X.s₀.heap s.heap
 loc:∃m,s.heap.Ns X.env.locals m/\∀(i:Nat) (x:Str) (v:V),X.N[i]?=some x->σ[i]?=some (some v)->Vis X.env.scope x->∃u,RelV v u/\Look X.env s.heap m x u
 cell:∀x c,X.env.cells.lookup x=some c->∃v,s.heap.IsCell c v
 free:H X.env.locals=none
 freeC:∀x c,X.env.cells.lookup x=some c->H c=none
 pin:∀p∈X.pn++pins,s.heap.get? p.1=some p.2/\H p.1=none/\p.1≠X.env.locals/\p.1 ∉ X.fs/\∀v,p.2.data≠.cell v
 hok:HOk X.prog X.w H s.heap
 len:σ.length=X.N.length
section
variable {X:Cx}{pins:List (Addr × Obj)}{σ:List (Option V)}{H H':Hp}{s:Shared}{h':Heap}
theorem Cx.Ok.nofr (ok:X.Ok) {b:Addr}{o:Obj}(e:X.base.get? b=some o):b ∉ X.fs:=fun hb=>by
 have:=(ok.funs.mem hb).1
 rw[e]at this;cases this
theorem Inv.bs (I:Inv X pins σ H s):∀b o,X.base.get? b=some o->s.heap.get? b=some o/\H b=none:=fun b o e=>
 ⟨I.base.keep b o (I.ok.bs b o e).1 (I.ok.bs b o e).2 (I.ok.nofr e) (I.ok.noex b o e),I.base.free b o (I.ok.bs b o e).1 (I.ok.bs b o e).2 (I.ok.noex b o e)⟩
theorem Inv.bk (I:Inv X pins σ H s):∀b o,X.base.get? b=some o->s.heap.get? b=some o:=fun b o e=>(I.bs b o e).1
theorem Inv.mod (I:Inv X pins σ H s):Mod X.K X.mg X.base:=I.ok.mod
theorem Inv.kIn (I:Inv X pins σ H s):X.K.In s.heap:=I.ok.mod.kin.keeps I.bk
theorem Inv.lt (I:Inv X pins σ H s):X.env.locals<s.heap.objs.size:=let ⟨_,hn,_⟩:=I.loc;hn.lt
theorem Inv.sz (I:Inv X pins σ H s):X.s₀.heap.objs.size<=s.heap.objs.size:=xH I.ok.above (vb I.lt)
theorem Inv.nofs (I:Inv X pins σ H s) {a:Addr}(h:s.heap.objs.size<=a):a ∉ X.fs:=fun hb=>by
 obtain⟨_,o,ho,_⟩:=I.ok.funs.mem hb
 exact absurd (xr (xl ho) (xH I.sz h)) (vt _)
theorem Inv.cne (I:Inv X pins σ H s):∀x c,X.env.cells.lookup x=some c->c≠X.env.locals:=fun x c e z=>by
 obtain⟨v,o,ho,hd⟩:=I.cell x c e
 obtain⟨m,⟨o',es,ep,ho',hd',_⟩,_⟩:=I.loc
 rw[z,ho']at ho;cases ho;rw[hd']at hd;cases hd
theorem Inv.funs (I:Inv X pins σ H s):s.heap.FunFrames X.base X.outer:=by
 have all:∀(l:List Env),(∀b∈frs l,b∈X.fs)->X.s₀.heap.FunFrames X.base l->s.heap.FunFrames X.base l:=by
  intro l
  induction l with
  | nil=>intro _ _;trivial
  | cons env r ih=>
   intro hs hl
   obtain⟨hk,⟨L,o,hf,hn,ho,hd⟩,hr⟩:=hl
   have hL:L∈X.fs:=hs L (by unfold frs;rw[um,hf];exact xS)
   obtain⟨sl,e⟩:=I.base.slot L o ho (I.ok.frf L hL) hL fun z=>I.ok.exfs L z hL
   exact⟨hk,⟨L,_,hf,hn,e,hd⟩,ih (fun b hb=>hs b (by unfold frs;rw[um,hf];exact xW _ hb)) hr⟩
 exact all X.outer (fun _ hb=>hb) I.ok.funs
theorem Inv.stack (I:Inv X pins σ H s):s.heap.FunFrames X.base X.stack:=by
 rcases I.ok.stk with e|⟨e,hf⟩
 ·rw[e];exact I.funs
 ·rw[e]
  obtain⟨m,hn,_⟩:=I.loc
  refine .cons (by rw[I.ok.kind];decide) hf hn ?_ I.funs
  exact Heap.get?_none_of_le (xH I.ok.bsz I.ok.above)
theorem Inv.stkSub (I:Inv X pins σ H s):∀b∈frs X.stack,b∈X.env.locals::X.fs:=fun b hb=>by
 rcases I.ok.stk with e|⟨e,hf⟩
 ·rw[e]at hb;exact xW _ hb
 ·rw[e]at hb
  unfold frs at hb
  rw[um,hf]at hb
  exact hb
theorem Inv.stkFree (I:Inv X pins σ H s):∀b∈frs X.stack,H b=none:=fun b hb=>by
 rcases xm.mp (I.stkSub b hb)with e|hb
 ·rw[e];exact I.free
 ·obtain⟨_,o,ho,_⟩:=I.ok.funs.mem hb
  exact I.base.free b o ho (I.ok.frf b hb) fun z=>I.ok.exfs b z hb
theorem Inv.step {g':Array GenState}{t':Nat}{d':Drawn}{ch:List Addr}(I:Inv X pins σ H s)
  (hch:∀b∈ch,(b∈X.ex\/X.s₀.heap.objs.size<=b)/\b≠X.env.locals/\(∀x c,X.env.cells.lookup x=some c->c≠b)/\∀p∈X.pn++pins,p.1≠b)
  (keep:∀b o,b≠X.env.locals->b ∉ X.fs->b ∉ ch->s.heap.get? b=some o->H b=none->h'.get? b=some o)
  (slot:∀b o,b≠X.env.locals->b∈X.fs->b ∉ ch->s.heap.get? b=some o->H b=none->∃sl,h'.get? b=some { o with slots:=sl }) (free:∀b o,b ∉ ch->s.heap.get? b=some o->H b=none->H' b=none)
  (there:∀b o,b ∉ ch->s.heap.get? b=some o->∃o',h'.get? b=some o')
  (tups:∀b xs,H b=some (.tup xs)->H' b=some (.tup xs)) (frzs:∀b o u,H b=some (.frz o u)->H' b=some (.frz o u)) (tbls:∀b ps,H b=some (.tbl ps)->∃more,H' b=some (.tbl (ps++more)))
  (ns:∀m,s.heap.Ns X.env.locals m->h'.Ns X.env.locals m) (hok:HOk X.prog X.w H' h') (hg:AllBare g'):
  Inv X pins σ H' { s with heap:=h',gens:=g',drawn:=d',toks:=t' }:=by
 have neL:∀b o,X.s₀.heap.get? b=some o->b≠X.env.locals:=fun b o e=>xq (xr (xl e) I.ok.above)
 have neC:∀b o,X.s₀.heap.get? b=some o->b ∉ X.ex->b ∉ ch:=fun b o e hx hb=>by
  rcases(hch b hb).1 with z|z
  ·exact hx z
  ·exact absurd (xr (xl e) z) (vt _)
 have cellK:∀x c,X.env.cells.lookup x=some c->∀v,s.heap.IsCell c v->h'.IsCell c v:=fun x c e v ⟨o,ho,hd⟩=>by
  have nch:c ∉ ch:=fun z=>(hch c z).2.2.1 x c e rfl
  by_cases hc:c∈X.fs
  ·obtain⟨sl,q⟩:=slot c o (I.cne x c e) hc nch ho (I.freeC x c e)
   exact⟨_,q,hd⟩
  ·exact⟨o,keep c o (I.cne x c e) hc nch ho (I.freeC x c e),hd⟩
 refine⟨I.ok,I.os,hg,⟨fun b o e n hb hx=>?_,fun b o e n hb hx=>?_,fun b o e n hx=>?_,fun b o e hx=>?_,fun b xs e=>tups b xs (I.base.tups b xs e),fun b o xs e=>frzs b o xs (I.base.frzs b o xs e),fun b ps e=>?_⟩,?_,fun x c e=>?_,?_,fun x c e=>?_,fun p hp=>?_,hok,I.len⟩
 ·exact keep b o (neL b o e) hb (neC b o e hx) (I.base.keep b o e n hb hx) (I.base.free b o e n hx)
 ·obtain⟨sl,e1⟩:=I.base.slot b o e n hb hx
  obtain⟨sl',e2⟩:=slot b _ (neL b o e) hb (neC b o e hx) e1 (I.base.free b o e n hx)
  exact⟨sl',e2⟩
 ·obtain⟨o',e1⟩:=I.base.there b o e hx
  exact free b o' (neC b o e hx) e1 (I.base.free b o e n hx)
 ·obtain⟨o',e1⟩:=I.base.there b o e hx
  exact there b o' (neC b o e hx) e1
 ·obtain⟨m1,e1⟩:=I.base.tbls b ps e
  obtain⟨m2,e2⟩:=tbls b _ e1
  exact⟨m1++m2,by rw[e2,Array.append_assoc]⟩
 ·obtain⟨m,hn,hl⟩:=I.loc
  refine⟨m,ns m hn,fun i x v e1 e2 e3=>?_⟩
  obtain⟨u,r,l⟩:=hl i x v e1 e2 e3
  refine⟨u,r,?_⟩
  rcases l with l|⟨k,c,e,z⟩
  ·exact .inl l
  ·exact .inr ⟨k,c,e,cellK x c e _ z⟩
 ·obtain⟨v,z⟩:=I.cell x c e
  exact⟨v,cellK x c e v z⟩
 ·obtain⟨m,⟨o,_,_,ho,_⟩,_⟩:=I.loc
  exact free _ o (fun z=>(hch _ z).2.1 rfl) ho I.free
 ·obtain⟨v,o,ho,hd⟩:=I.cell x c e
  exact free c o (fun z=>(hch c z).2.2.1 x c e rfl) ho (I.freeC x c e)
 ·obtain⟨e,n,ne,nf,d⟩:=I.pin p hp
  have nch:p.1 ∉ ch:=fun z=>(hch p.1 z).2.2.2 p hp rfl
  exact⟨keep p.1 p.2 ne nf nch e n,free p.1 p.2 nch e n,ne,nf,d⟩
theorem Inv.un {t':Nat}(I:Inv X pins σ H s) (u:Un X.fs [] H H' s.heap h') (hok:HOk X.prog X.w H' h'):Inv X pins σ H' { s with heap:=h',toks:=t' }:=by
 obtain⟨m,⟨o,es,ep,ho,r⟩,_⟩:=id I.loc
 obtain⟨sl,hL⟩:=u.any ho I.free (by simp)
 exact I.step (g':=s.gens) (d':=s.drawn) (ch:=[]) (fun _ z=>nomatch z) (fun b o _ hb _ e n=>u.keep b o e n hb (by simp)) (fun b o _ hb _ e n=>u.slot b o e n hb (by simp)) (fun b o _ e n=>u.free b o e n (by simp)) (fun b o _ e=>u.there b o e (by simp)) u.tups u.frzs u.tbls (fun m' hm=>by
  obtain⟨o',es',ep',ho',r'⟩:=hm
  rw[ho]at ho';cases ho'
  exact⟨_,es',ep',hL,r'⟩) hok I.bare
theorem Inv.call {g':Array GenState}{t':Nat}{d':Drawn}{ch:List Addr}(I:Inv X pins σ H s) (u:Un (frs X.stack) ch H H' s.heap h') (hok:HOk X.prog X.w H' h') (hg:AllBare g')
  (hch:∀b∈ch,(b∈X.ex\/X.s₀.heap.objs.size<=b)/\b≠X.env.locals/\(∀x c,X.env.cells.lookup x=some c->c≠b)/\∀p∈X.pn++pins,p.1≠b):
  Inv X pins σ H' { s with heap:=h',gens:=g',drawn:=d',toks:=t' }:=by
 obtain⟨m,⟨o,es,ep,ho,r⟩,_⟩:=id I.loc
 obtain⟨sl,hL⟩:=u.any ho I.free fun z=>(hch _ z).2.1 rfl
 exact I.step (ch:=ch) hch (fun b o hL hb hc e n=>u.keep b o e n (fun z=>(xm.mp (I.stkSub b z)).elim hL hb) hc) (fun b o _ _ hc e n=>u.any e n hc) (fun b o hc e n=>u.free b o e n hc) (fun b o hc e=>u.there b o e hc) u.tups u.frzs u.tbls (fun m' hm=>by
  obtain⟨o',es',ep',ho',r'⟩:=hm
  rw[ho]at ho';cases ho'
  exact⟨_,es',ep',hL,r'⟩) hok hg
theorem Inv.turned {t':Nat}{it:Addr}(I:Inv X pins σ H s) (k:∀b o,b≠it->s.heap.get? b=some o->h'.get? b=some o) (hn:H it=none) (hL:it≠X.env.locals)
  (h1:it∈X.ex\/X.s₀.heap.objs.size<=it) (h2:∀x c,X.env.cells.lookup x=some c->c≠it) (h3:∀p∈X.pn++pins,p.1≠it):Inv X pins σ H { s with heap:=h',toks:=t' }:=by
 have nit:∀b u,H b=some u->b≠it:=fun b u e z=>by rw[z,hn]at e;cases e
 refine I.step (g':=s.gens) (d':=s.drawn) (ch:=[it]) (fun b hb=>?_) (fun b o _ _ hc e _=>k b o (fun z=>hc (by simp[z])) e) (fun b o _ _ hc e _=>⟨o.slots,k b o (fun z=>hc (by simp[z])) e⟩) (fun _ _ _ _ n=>n)
  (fun b o hc e=>⟨o,k b o (fun z=>hc (by simp[z])) e⟩) (fun _ _ e=>e) (fun _ _ _ e=>e) (fun b ps e=>⟨#[],by rw[e];simp⟩) (fun m hm=>?_) (fun b u e=>?_) I.bare
 ·have e:b=it:=by simpa using hb
  subst e
  exact⟨h1,hL,h2,h3⟩
 ·obtain⟨o,es,ep,ho,r⟩:=hm
  exact⟨o,es,ep,k _ o (xo hL) ho,r⟩
 ·refine(I.hok b u e).stay (fun c v hc q=>k c v ?_ q) (fun _ q=>q) fun _ _ q=>q
  rcases hc with z|z
  ·rw[z];exact nit b u e
  ·exact nit c _ z
theorem Inv.tok (I:Inv X pins σ H s) (t:Nat):Inv X pins σ H { s with toks:=t }:=I.un (h':=s.heap) (t':=t) Un.refl I.hok
theorem Inv.kept {t':Nat}(I:Inv X pins σ H s) (k:∀b u,s.heap.get? b=some u->h'.get? b=some u):Inv X pins σ H { s with heap:=h',toks:=t' }:=I.un (Un.kept k) (I.hok.kept k)
theorem Inv.laid {a:Addr}{o:HO}{t':Nat}(I:Inv X pins σ H s) (k:∀b u,s.heap.get? b=some u->h'.get? b=some u) (hp:s.heap.objs.size<=a) (new:ObjOk X.prog X.w (upd H a o) h' a o):
  Inv X pins σ (upd H a o) { s with heap:=h',toks:=t' }:=I.un (Un.laid k hp (I.hok.fresh hp)) (I.hok.laid k hp new)
theorem Inv.write {x e:Addr}{o:HO}{t':Nat}(I:Inv X pins σ H s) (mu:Mut (H x)) (he:e=x\/H e=some (.own x)) (k:∀b u,b≠e->s.heap.get? b=some u->h'.get? b=some u) (heo:∃u,h'.get? e=some u)
  (new:ObjOk X.prog X.w (upd H x o) h' x o):Inv X pins σ (upd H x o) { s with heap:=h',toks:=t' }:=I.un (Un.write mu he k heo) (I.hok.write mu he k heo new)
theorem Inv.pins_of {pins':List (Addr × Obj)}(I:Inv X pins σ H s) (h:∀p∈pins',s.heap.get? p.1=some p.2/\H p.1=none/\p.1≠X.env.locals/\p.1 ∉ X.fs/\∀v,p.2.data≠.cell v):Inv X pins' σ H s:=
 ⟨I.ok,I.os,I.bare,I.base,I.loc,I.cell,I.free,I.freeC,fun p hp=>(vc.mp hp).elim (fun z=>I.pin p (u6 _ z)) (h p),I.hok,I.len⟩
theorem zLi {N:List Str}(hN:N.Nodup) {i j:Nat}{x:Str}(a:N[i]?=some x) (b:N[j]?=some x):i=j:=by
 obtain⟨h1,e1⟩:=xx.mp a
 obtain⟨h2,e2⟩:=xx.mp b
 exact(List.getElem_inj hN).mp (e1.trans e2.symm)
theorem zIr {M:Model}{A:Around}{E:Value->Shared->Prop}{i:Nat}{x:Str}{v:V}{u:Value}{Q:Unit->Shared->Prop}(I:Inv X pins σ H s) (hN:X.N.Nodup) (hi:X.N[i]?=some x) (hx:Loc X.env.scope x) (r:RelV v u)
  (h:∀s',Inv X pins (σ.set i (some v)) H s'->(∃a,Heap.SameBut a s.heap s'.heap/\(a=X.env.locals\/X.env.cells.lookup x=some a))->Q () s') (hf:X.fn x=true\/X.env.scope.names.lookup x=some .local:=by first|exact .inl rfl|exact .inr rfl|assumption):wpAny M A (storeName X.env x u) Q E s:=by
 obtain⟨m,hn,hl⟩:=id I.loc
 have hcls:(X.env.scope.kind == .class || (X.env.scope.kind == .module && X.env.locals != X.env.globals))=false:=by rw[I.ok.kind];rfl
 have hiσ:i<σ.length:=by rw[I.len];exact(xx.mp hi).1
 have cne:=I.cne
 have tracked:∀{a:Addr}{h':Heap},(∃o,s.heap.get? a=some o/\H a=none)->Heap.SameBut a s.heap h'->HOk X.prog X.w H h':=fun {a h'} ha hs b ob e=>by
  obtain⟨_,_,hfree⟩:=ha
  refine(I.hok b ob e).stay (fun c w' hc q=>(hs.2 c ?_).trans q) (fun _ q=>q) fun _ _ q=>q
  rintro rfl
  rcases hc with rfl|hc
  ·rw[hfree]at e;cases e
  ·rw[hfree]at hc;cases hc
 rcases hx with hk|hk
 ·refine wpAny_storeName_local hk hn (fun h' hn' hs=>?_) hcls
  obtain⟨oL,_,_,hoL,_⟩:=id hn
  refine h _ ⟨I.ok,I.os,I.bare,⟨fun b o e n hb hx=>?_,fun b o e n hb hx=>?_,I.base.free,fun b o e hx=>?_,I.base.tups,I.base.frzs,I.base.tbls⟩,⟨_,hn',fun j y v' e1 e2 e3=>?_⟩,fun y c e=>?_,I.free,I.freeC,fun p hp=>?_,tracked ⟨oL,hoL,I.free⟩ hs,by simpa using I.len⟩ ⟨_,hs,.inl rfl⟩
  ·exact(hs.2 b (xq (xr (xl e) I.ok.above))).trans (I.base.keep b o e n hb hx)
  ·obtain⟨sl,e1⟩:=I.base.slot b o e n hb hx
   exact⟨sl,(hs.2 b (xq (xr (xl e) I.ok.above))).trans e1⟩
  ·obtain⟨o',e1⟩:=I.base.there b o e hx
   exact⟨o',(hs.2 b (xq (xr (xl e) I.ok.above))).trans e1⟩
  ·by_cases hj:j=i
   ·subst hj
    rw[hi]at e1;cases e1
    rw[vo hiσ]at e2
    cases e2
    exact⟨u,r,.inl ⟨hk,by simp⟩⟩
   ·rw[xI (xo hj)]at e2
    obtain⟨u',r',q⟩:=hl j y v' e1 e2 e3
    refine⟨u',r',?_⟩
    rcases q with⟨k,e⟩|⟨k,c,e,z⟩
    ·refine .inl ⟨k,?_⟩
     have:y≠x:=fun e=>hj (zLi hN e1 (e ▸ hi))
     simp[this,e]
    ·exact .inr ⟨k,c,e,z.sameBut hs (cne y c e)⟩
  ·obtain⟨w',z⟩:=I.cell y c e
   exact⟨w',z.sameBut hs (cne y c e)⟩
  ·obtain⟨e,n,ne,nf,d⟩:=I.pin p hp
   exact⟨(hs.2 p.1 ne).trans e,n,ne,nf,d⟩
 ·have hfn:X.fn x=true:=by
   rcases hf with z|z
   ·exact z
   ·rw[z]at hk;cases hk
  obtain⟨c,hc⟩:=I.ok.has x (.inl hk)
  obtain⟨w',z⟩:=I.cell x c hc
  refine wpAny_storeName_cell I.ok.kind hk hc z (fun h' hc' hs=>?_)
  obtain⟨oc,hoc,hocd⟩:=id z
  refine h { s with heap:=h' } ⟨I.ok,I.os,I.bare,⟨fun b o e n hb hx=>?_,fun b o e n hb hx=>?_,I.base.free,fun b o e hx=>?_,I.base.tups,I.base.frzs,I.base.tbls⟩,⟨m,hn.sameBut hs (xo (cne x c hc)),fun j y v' e1 e2 e3=>?_⟩,fun y c' e=>?_,I.free,I.freeC,fun p hp=>?_,tracked ⟨oc,hoc,I.freeC x c hc⟩ hs,by simpa using I.len⟩ ⟨c,hs,.inr hc⟩
  ·exact(hs.2 b (xq (xr (xl e) (I.ok.cab x c hfn hc)))).trans (I.base.keep b o e n hb hx)
  ·obtain⟨sl,e1⟩:=I.base.slot b o e n hb hx
   exact⟨sl,(hs.2 b (xq (xr (xl e) (I.ok.cab x c hfn hc)))).trans e1⟩
  ·obtain⟨o',e1⟩:=I.base.there b o e hx
   exact⟨o',(hs.2 b (xq (xr (xl e) (I.ok.cab x c hfn hc)))).trans e1⟩
  ·by_cases hj:j=i
   ·subst hj
    rw[hi]at e1;cases e1
    rw[vo hiσ]at e2
    cases e2
    exact⟨u,r,.inr ⟨.inl hk,c,hc,hc'⟩⟩
   ·rw[xI (xo hj)]at e2
    obtain⟨u',r',q⟩:=hl j y v' e1 e2 e3
    refine⟨u',r',?_⟩
    rcases q with q|⟨k,c',e,z'⟩
    ·exact .inl q
    ·refine .inr ⟨k,c',e,z'.sameBut hs ?_⟩
     rintro rfl
     exact hj (zLi hN e1 (I.ok.inj _ _ _ e hc ▸ hi))
  ·by_cases hcc:c'=c
   ·subst hcc;exact⟨_,hc'⟩
   ·obtain⟨w2,z2⟩:=I.cell y c' e
    exact⟨w2,z2.sameBut hs hcc⟩
  ·obtain⟨e,n,ne,nf,d⟩:=I.pin p hp
   refine⟨(hs.2 p.1 ?_).trans e,n,ne,nf,d⟩
   intro q
   rw[q,hoc]at e
   have q':oc=p.2:=xE e
   exact d w' (by rw[<- q'];exact hocd)
theorem zFy {M:Model}{A:Around}{E:Value->Shared->Prop}{i:Nat}{x:Str}{v:V}{u:Value}{Q:Unit->Shared->Prop}(I:Inv X pins σ H s) (hN:X.N.Nodup) (hi:X.N[i]?=some x) (hx:Loc X.env.scope x) (r:RelV v u)
  (h:∀s',Inv X pins (σ.set i (some v)) H s'->Q () s') (hf:X.fn x=true\/X.env.scope.names.lookup x=some .local:=by first|exact .inl rfl|exact .inr rfl|assumption):wpAny M A (storeName X.env x u) Q E s:=
 zIr I hN hi hx r (fun s' I' _=>h s' I') hf
theorem Inv.call' {s':Shared}{ch:List Addr}(I:Inv X pins σ H s) (ho:s'.os=s.os) (u:Un (frs X.stack) ch H H' s.heap s'.heap) (hok:HOk X.prog X.w H' s'.heap) (hg:AllBare s'.gens)
  (hch:∀b∈ch,(b∈X.ex\/X.s₀.heap.objs.size<=b)/\b≠X.env.locals/\(∀x c,X.env.cells.lookup x=some c->c≠b)/\∀p∈X.pn++pins,p.1≠b):Inv X pins σ H' s':=by
 obtain⟨h',g',d',t',o'⟩:=s'
 have e:o'=s.os:=ho
 subst e
 exact I.call (g':=g') (t':=t') (d':=d') u hok hg hch
end
noncomputable abbrev XK:=Value->Option Addr->Hp->Prop
noncomputable abbrev St:=List (Option V)
noncomputable abbrev VK:=V->Hp->Prop
noncomputable abbrev TE:=St->Hp->VK->Prop
noncomputable abbrev TT:=St->Hp->(Bool->Hp->Prop)->Prop
noncomputable abbrev TA:=St->Hp->(List V->Hp->Prop)->Prop
structure Ends where
 nx:St->Hp->Prop
 rt:VK
 bk:St->Hp->Prop:=fun _ _=>False
 ct:St->Hp->Prop:=fun _ _=>False
noncomputable abbrev TS:=Ends->St->Hp->Prop
noncomputable def EP (X:Cx) (pins:List (Addr × Obj)) (σ:St) (Q:VK) (u:Value) (s':Shared):Prop:=∃v H',Inv X pins σ H' s'/\RelV v u/\Q v H'
noncomputable def TP (X:Cx) (pins:List (Addr × Obj)) (σ:St) (Q:Bool->Hp->Prop) (b:Bool) (s':Shared):Prop:=∃H',Inv X pins σ H' s'/\Q b H'
noncomputable def AP (X:Cx) (pins:List (Addr × Obj)) (σ:St) (Q:List V->Hp->Prop) (us:List Value) (s':Shared):Prop:=∃vs H',Inv X pins σ H' s'/\Vals vs us/\Q vs H'
noncomputable def SP (X:Cx) (pins:List (Addr × Obj)) (D:Ends) (f:Flow) (s':Shared):Prop:=
 match f with
 | .next=>∃σ' H',Inv X pins σ' H' s'/\D.nx σ' H'
 | .brk=>∃σ' H',Inv X pins σ' H' s'/\D.bk σ' H'
 | .cont=>∃σ' H',Inv X pins σ' H' s'/\D.ct σ' H'
 | .ret u=>∃v σ' H',Inv X pins σ' H' s'/\RelV v u/\D.rt v H'
noncomputable def PE (X:Cx) (e:Expr) (t:TE):Prop:=
 ∀(pins:List (Addr × Obj)) (s:Shared) (σ:St) (H:Hp) (Q:VK),Inv X pins σ H s->t σ H Q->wpAny (model X.prog X.w) X.A (eval e X.env) (EP X pins σ Q) X.xe s
noncomputable def PT (X:Cx) (e:Expr) (t:TT):Prop:=
 ∀(pins:List (Addr × Obj)) (s:Shared) (σ:St) (H:Hp) (Q:Bool->Hp->Prop),Inv X pins σ H s->t σ H Q->wpAny (model X.prog X.w) X.A (isTrue e X.env (eval e X.env)) (TP X pins σ Q) X.xe s
noncomputable def PW (X:Cx) (e:Expr) (t:TT):Prop:=
 ∀(whole:Sem Value) (pins:List (Addr × Obj)) (s:Shared) (σ:St) (H:Hp) (Q:Bool->Hp->Prop),Inv X pins σ H s->t σ H Q->wpAny (model X.prog X.w) X.A (isTrue e X.env whole) (TP X pins σ Q) X.xe s
theorem PW.pt {X:Cx}{e:Expr}{t:TT}(h:PW X e t):PT X e t:=h _
noncomputable def PA (X:Cx) (es:List Expr) (t:TA):Prop:=
 ∀(pos:Pos) (pins:List (Addr × Obj)) (s:Shared) (σ:St) (H:Hp) (Q:List V->Hp->Prop),Inv X pins σ H s->t σ H Q->wpAny (model X.prog X.w) X.A (spliced (backTo pos (starEach es X.env))) (AP X pins σ Q) X.xe s
noncomputable def PS (X:Cx) (st:Stmt) (t:TS):Prop:=
 ∀(pins:List (Addr × Obj)) (s:Shared) (σ:St) (H:Hp) (D:Ends),Inv X pins σ H s->t D σ H->wpAny (model X.prog X.w) X.A (exec st X.env) (SP X pins D) X.xe s
noncomputable def PSs (X:Cx) (st:List Stmt) (t:TS):Prop:=
 ∀(pins:List (Addr × Obj)) (s:Shared) (σ:St) (H:Hp) (D:Ends),Inv X pins σ H s->t D σ H->wpAny (model X.prog X.w) X.A (execs st X.env) (SP X pins D) X.xe s
theorem thn {α:Type}{t:Sem α}{Q Q':α->Shared->Prop}{M:Model}{A:Around}{E:Value->Shared->Prop}{s:Shared}(h:wpAny M A t Q E s) (hQ:∀a s,Q a s->Q' a s):wpAny M A t Q' E s:=vB h hQ fun _ _ x=>x
end L2
namespace L2
open PySem PySem.Spec PyProof.Rows
section
variable {X:Cx}
noncomputable def tVar (i:Nat):TE:=fun σ H Q=>∃v,σ[i]?=some (some v)/\Q v H
noncomputable def tC (v:V):TE:=fun _ H Q=>Q v H
theorem zY9 {i:Nat}{x:Str}{pos:Pos}(hN:X.N[i]?=some x) (hv:Vis X.env.scope x) (hd:(x == ("__debug__":Str))=false:=by decide) (hcd:(x == ("__classdict__":Str))=false:=by decide):PE X (.Name x pos) (tVar i):=by
 intro pins s σ H Q I h
 obtain⟨v,e,h⟩:=h
 obtain⟨m,hn,hl⟩:=I.loc
 obtain⟨u,r,l⟩:=hl i x v hN e hv
 have fin:EP X pins σ Q u s:=⟨v,H,I,r,h⟩
 rcases l with⟨hk,hm⟩|⟨hk,c,hc,hcell⟩
 ·exact wpAny_Name (wpAny_loadName_local I.ok.kind hk hn hm fin) hd
 ·rcases hk with hk|hk
  ·exact wpAny_Name (wpAny_loadName_cell I.ok.kind hk hc hcell fin) hd
  ·exact wpAny_Name (wpAny_loadName_free I.ok.kind hk hc hcell fin hcd) hd
theorem zYh {i j pos}:PE X (.Constant (.int i) j pos) (tC (.int i)):=fun _ _ _ H _ I h=>wpAny_Constant_int ⟨.int i,H,I.tok _,⟨_,rfl⟩,h⟩
theorem yAl {b j pos}:PE X (.Constant (.bool b) j pos) (tC (.bl b)):=fun _ _ _ H _ I h=>Constant_bool ⟨.bl b,H,I,rfl,h⟩
theorem zYc {x j pos}:PE X (.Constant (.str x) j pos) (tC (.str x)):=fun _ _ _ H _ I h=>Calls.Constant_str ⟨.str x,H,I.tok _,⟨_,rfl⟩,h⟩
noncomputable def Gl (X:Cx) (x:Str):Prop:=X.env.kindOf x=some .globalImplicit
theorem zPh {E:Value->Shared->Prop}{pins:List (Addr × Obj)}{s:Shared}{σ:St}{H:Hp}{x:Str}{u:Value}{pos:Pos}{Q:Value->Shared->Prop}(I:Inv X pins σ H s) (hg:Gl X x) (hm:X.mg x=some u) (h:Q u s)
  (hd:(x == ("__debug__":Str))=false:=by decide):wpAny (model X.prog X.w) X.A (eval (.Name x pos) X.env) Q E s:=
 Calls.Name_function_global I.ok.kind hg (Calls.loadGlobal_global (by rw[I.ok.glob];exact I.mod.glob.keeps I.bk) hm h) hd
theorem zDk {E:Value->Shared->Prop}{pins:List (Addr × Obj)}{s:Shared}{σ:St}{H:Hp}{x:Str}{u:Value}{pos:Pos}{Q:Value->Shared->Prop}(I:Inv X pins σ H s) (hg:Gl X x) (hm:X.mg x=none) (hv:bootBuiltins x=some u) (h:Q u s)
  (hn:x≠"__name__":=by decide) (hd:(x == ("__debug__":Str))=false:=by decide):wpAny (model X.prog X.w) X.A (eval (.Name x pos) X.env) Q E s:=by
 obtain⟨mb,h1,h2⟩:=I.mod.blt
 exact Calls.Name_function_global I.ok.kind hg (Calls.loadGlobal_builtin (by rw[I.ok.glob];exact I.mod.glob.keeps I.bk) hm (by rw[I.ok.blt];exact h1.keeps I.bk) ((h2 x hn).trans hv) h) hd
theorem zVf {x:Str}{v:V}{u:Value}{pos:Pos}(hg:Gl X x) (hm:X.mg x=some u) (r:RelV v u) (hd:(x == ("__debug__":Str))=false:=by decide):PE X (.Name x pos) (tC v):=
 fun _ _ _ H _ I h=>zPh I hg hm ⟨v,H,I,r,h⟩ hd
theorem zVj {x:Str}{v:V}{u:Value}{pos:Pos}(hg:Gl X x) (hm:X.mg x=none) (hv:bootBuiltins x=some u) (r:RelV v u) (hn:x≠"__name__":=by decide) (hd:(x == ("__debug__":Str))=false:=by decide):PE X (.Name x pos) (tC v):=
 fun _ _ _ H _ I h=>zDk I hg hm hv ⟨v,H,I,r,h⟩ hn hd
variable {a b:Expr}{ta tb:TE}{pos:Pos}
variable {tA tB':TT}{rest:List Expr}
noncomputable def tAnd (t u:TT):TT:=fun σ H Q=>t σ H fun c H1=>if c=true then u σ H1 Q else Q false H1
noncomputable def tOr (t u:TT):TT:=fun σ H Q=>t σ H fun c H1=>if c=true then Q true H1 else u σ H1 Q
noncomputable def tNot (t:TT):TT:=fun σ H Q=>t σ H fun c H1=>Q (!c) H1
theorem zUu (ha:PT X a tA):PW X (.BoolOp .And [a] pos) tA:=by
 intro wh pins s σ H Q I h
 refine isTrue_and (thn (ha pins s σ H Q I h) fun c s1 e=>?_)
 cases c with
 | true=>exact isTrue_and_nil e
 | false=>exact e
theorem zXx (ha:PT X a tA):PW X (.BoolOp .Or [a] pos) tA:=by
 intro wh pins s σ H Q I h
 refine isTrue_or (thn (ha pins s σ H Q I h) fun c s1 e=>?_)
 cases c with
 | false=>exact isTrue_or_nil e
 | true=>exact e
theorem zXz (ha:PT X a tA) (hb:PW X (.BoolOp .And (b::rest) pos) tB'):PW X (.BoolOp .And (a::b::rest) pos) (tAnd tA tB'):=by
 intro wh pins s σ H Q I h
 refine isTrue_and (thn (ha pins s σ H _ I h) fun c s1 hq1=>?_)
 obtain⟨H1,I1,q1⟩:=hq1
 cases c with
 | true=>exact hb wh pins s1 σ H1 Q I1 q1
 | false=>exact⟨H1,I1,q1⟩
theorem yAf (ha:PT X a tA) (hb:PW X (.BoolOp .Or (b::rest) pos) tB'):PW X (.BoolOp .Or (a::b::rest) pos) (tOr tA tB'):=by
 intro wh pins s σ H Q I h
 refine isTrue_or (thn (ha pins s σ H _ I h) fun c s1 hq1=>?_)
 obtain⟨H1,I1,q1⟩:=hq1
 cases c with
 | true=>exact⟨H1,I1,q1⟩
 | false=>exact hb wh pins s1 σ H1 Q I1 q1
theorem zY1 (ha:PT X a tA):PT X (.UnaryOp .Not a pos) (tNot tA):=by
 intro pins s σ H Q I h
 exact isTrue_not (ha pins s σ H (fun c H1=>Q (!c) H1) I h)
noncomputable def zXl (ta tb:TE):TE:=fun σ H Q=>ta σ H fun x H1=>∃c,x=.bl c/\if c=true then tb σ H1 Q else Q (.bl false) H1
noncomputable def zXi (ta:TE):TE:=fun σ H Q=>ta σ H fun x H1=>∃c,x=.bl c/\Q (.bl (!c)) H1
theorem zYe {op}{t:TE}(h:PE X a t):PE X (.BoolOp op [a] pos) t:=fun pins s σ H Q I hw=>BoolOp_one (h pins s σ H Q I hw)
theorem zYm (ha:PE X a ta) (hb:PE X (.BoolOp .And (b::rest) pos) tb):PE X (.BoolOp .And (a::b::rest) pos) (zXl ta tb):=by
 intro pins s σ H Q I h
 refine BoolOp_and (thn (ha pins s σ H _ I h) fun v s1 hq1=>?_)
 obtain⟨x,H1,I1,r1,q1⟩:=hq1
 obtain⟨c,rfl,q1⟩:=q1
 cases r1
 refine uF ?_
 cases c with
 | true=>exact hb pins s1 σ H1 Q I1 q1
 | false=>exact⟨.bl false,H1,I1,rfl,q1⟩
theorem zYf (ha:PE X a ta):PE X (.UnaryOp .Not a pos) (zXi ta):=by
 intro pins s σ H Q I h
 refine UnaryOp_ (thn (ha pins s σ H _ I h) fun v s1 hq1=>?_)
 obtain⟨x,H1,I1,r1,q1⟩:=hq1
 obtain⟨c,rfl,q1⟩:=q1
 cases r1
 exact not_of (uF ⟨.bl (!c),H1,I1,rfl,q1⟩)
noncomputable def tIf (t:TT) (ta tb:TE):TE:=fun σ H Q=>t σ H fun c H1=>if c=true then ta σ H1 Q else tb σ H1 Q
theorem zRl {c:Expr}(hc:PT X c tA) (ha:PE X a ta) (hb:PE X b tb):PE X (.IfExp c a b pos) (tIf tA ta tb):=by
 intro pins s σ H Q I h
 refine wpAny_IfExp (thn (hc pins s σ H _ I h) fun d s1 hq1=>?_)
 obtain⟨H1,I1,q1⟩:=hq1
 cases d with
 | true=>exact ha pins s1 σ H1 Q I1 q1
 | false=>exact hb pins s1 σ H1 Q I1 q1
end
end L2
namespace L2
open PySem PySem.Spec PyProof.Rows
noncomputable def SqL (K:PySem.W.Frag) (H:Hp) (a:Addr) (xs:List V):Prop:=
 Rd H a (.lst xs) \/
  ∃(o:Obj) (its:Array Value) (n:Nat),K.lookup a=some o/\o.cls=.type "list"/\o.dict=none/\o.data=.seq its n/\its.size<=sizeLine/\Vals xs its.toList
noncomputable def SqT (K:PySem.W.Frag) (H:Hp) (a:Addr) (xs:List V):Prop:=
 Rd H a (.tup xs) \/
  ∃(o:Obj) (its:Array Value) (n:Nat),K.lookup a=some o/\o.cls=.type "tuple"/\o.data=.seq its n/\its.size<=sizeLine/\Vals xs its.toList
noncomputable def absV:Value->Option V
 | .none=>some .non
 | .bool b=>some (.bl b)
 | .int i _=>some (.int i)
 | .str x _=>some (.str x)
 | .bytes b _=>some (.byt b)
 | .float b _=>some (.flt b)
 | .ref a=>some (.ref a)
 | .type n=>some (.ty n)
 | _=>none
theorem RelV.abs {x:V}{u:Value}(r:RelV x u):absV u=some x:=by
 cases x with
 | non=>cases r;rfl
 | bl _=>cases r;rfl
 | int _=>obtain⟨t,rfl⟩:=r;rfl
 | str _=>obtain⟨t,rfl⟩:=r;rfl
 | byt _=>obtain⟨t,rfl⟩:=r;rfl
 | flt _=>obtain⟨t,rfl⟩:=r;rfl
 | ref _=>cases r;rfl
 | ty _=>cases r;rfl
theorem RelV.inj {x y:V}{u:Value}(r:RelV x u) (q:RelV y u):x=y:=xE (r.abs.symm.trans q.abs)
theorem Vals.inj:∀{xs ys:List V}{us:List Value},Vals xs us->Vals ys us->xs=ys
 | _,_,_,.nil,.nil=>rfl
 | _,_,_,.cons r t,.cons r' t'=>by rw[r.inj r',Vals.inj t t']
section
variable {X:Cx}{pins:List (Addr × Obj)}{σ:St}{H:Hp}{s:Shared}{a:Addr}{xs ys:List V}
theorem SqL.of {K:PySem.W.Frag}(h:H a=some (.lst xs)):SqL K H a xs:=.inl (.inl h)
theorem SqT.of {K:PySem.W.Frag}(h:H a=some (.tup xs)):SqT K H a xs:=.inl (.inl h)
theorem Inv.list (I:Inv X pins σ H s) (h:SqL X.K H a xs):∃its:List Value,Vals xs its/\PlainL s.heap a its.toArray/\xs.length<=sizeLine:=by
 rcases h with h|⟨o,its,n,hk,hc,hd,hs,hz,r⟩
 ·obtain⟨z,its,n,r,e⟩:=h.ok I.hok
  exact⟨its,r,⟨_,n,e,rfl,rfl,rfl⟩,z⟩
 ·refine⟨its.toList,r,⟨o,n,I.kIn a o hk,hc,hd,by simpa using hs⟩,?_⟩
  have e:=r.length
  simp only[uG]at e
  lia
theorem Inv.tuple (I:Inv X pins σ H s) (h:SqT X.K H a xs):∃its:List Value,Vals xs its/\IsTup s.heap a its.toArray/\xs.length<=sizeLine:=by
 rcases h with h|⟨o,its,n,hk,hc,hs,hz,r⟩
 ·obtain⟨z,its,r,p⟩:=h.ok I.hok
  exact⟨its,r,p,z⟩
 ·refine⟨its.toList,r,⟨o,I.kIn a o hk,hc,n,by simpa using hs⟩,?_⟩
  have e:=r.length
  simp only[uG]at e
  lia
theorem Inv.list_inj (I:Inv X pins σ H s) (h:SqL X.K H a xs) (h':SqL X.K H a ys):xs=ys:=by
 obtain⟨its,r,⟨o,n,e,_,_,d⟩,_⟩:=I.list h
 obtain⟨its',r',⟨o',n',e',_,_,d'⟩,_⟩:=I.list h'
 rw[e]at e';cases e'
 rw[d]at d'
 injection d' with d1 _
 have:its=its':=by simpa using congrArg Array.toList d1
 subst this
 exact r.inj r'
theorem Inv.tuple_inj (I:Inv X pins σ H s) (h:SqT X.K H a xs) (h':SqT X.K H a ys):xs=ys:=by
 obtain⟨its,r,⟨o,e,_,n,d⟩,_⟩:=I.tuple h
 obtain⟨its',r',⟨o',e',_,n',d'⟩,_⟩:=I.tuple h'
 rw[e]at e';cases e'
 rw[d]at d'
 injection d' with d1 _
 have:its=its':=by simpa using congrArg Array.toList d1
 subst this
 exact r.inj r'
end
noncomputable abbrev Cx.wish (X:Cx) (E:Value->Shared->Prop):Cx:={ X with xe:=E }
noncomputable abbrev Cx.nox (X:Cx):Cx:=X.wish fun _ _=>False
theorem Cx.Ok.wish {X:Cx}(ok:X.Ok) (E:Value->Shared->Prop):(X.wish E).Ok:=
 ⟨ok.mod,ok.kind,ok.glob,ok.blt,ok.above,ok.inj,ok.has,ok.cab,ok.hd,ok.frames,ok.stk,ok.exf,ok.bs,ok.bsz,ok.noex,ok.exfs,ok.funs,ok.frf⟩
theorem Cx.Ok.unwish {X:Cx}{E:Value->Shared->Prop}(ok:(X.wish E).Ok):X.Ok:=
 ⟨ok.mod,ok.kind,ok.glob,ok.blt,ok.above,ok.inj,ok.has,ok.cab,ok.hd,ok.frames,ok.stk,ok.exf,ok.bs,ok.bsz,ok.noex,ok.exfs,ok.funs,ok.frf⟩
section
variable {X:Cx}{pins:List (Addr × Obj)}{σ:St}{H:Hp}{s:Shared}{E:Value->Shared->Prop}
theorem Inv.wish (I:Inv X pins σ H s) (E:Value->Shared->Prop):Inv (X.wish E) pins σ H s:=⟨I.ok.wish E,I.os,I.bare,I.base,I.loc,I.cell,I.free,I.freeC,I.pin,I.hok,I.len⟩
theorem Inv.unwish (I:Inv (X.wish E) pins σ H s):Inv X pins σ H s:=⟨I.ok.unwish,I.os,I.bare,I.base,I.loc,I.cell,I.free,I.freeC,I.pin,I.hok,I.len⟩
theorem SP.unwish {D:Ends}{f:Flow}{s':Shared}(h:SP (X.wish E) pins D f s'):SP X pins D f s':=by
 cases f with
 | next=>obtain⟨σ',H',I,q⟩:=h;exact⟨σ',H',I.unwish,q⟩
 | brk=>obtain⟨σ',H',I,q⟩:=h;exact⟨σ',H',I.unwish,q⟩
 | cont=>obtain⟨σ',H',I,q⟩:=h;exact⟨σ',H',I.unwish,q⟩
 | ret u=>obtain⟨v,σ',H',I,r,q⟩:=h;exact⟨v,σ',H',I.unwish,r,q⟩
theorem PSs.nox {st:List Stmt}{t:TS}(h:PSs X.nox st t):PSs X st t:=fun pins s σ H D I hw=>
 vB (h pins s σ H D (I.wish _) hw) (fun _ _ q=>q.unwish) fun _ _ z=>False.elim z
end
section
variable {X:Cx}{st:Stmt}{rest:List Stmt}{t u:TS}{e:Expr}{te:TE}{pos:Pos}
noncomputable def zXj:TS:=fun D σ H=>D.nx σ H
noncomputable def tSeq (t u:TS):TS:=fun D σ H=>t { D with nx:=u D } σ H
theorem zV0:PSs X [] zXj:=fun _ _ σ H _ I h=>wpAny_execs_nil ⟨σ,H,I,h⟩
theorem zR7 (h1:PS X st t) (h2:PSs X rest u):PSs X (st::rest) (tSeq t u):=by
 intro pins s σ H D I h
 refine wpAny_execs_cons (thn (h1 pins s σ H { D with nx:=u D } I h) fun f s1 q=>?_)
 cases f with
 | next=>
  obtain⟨σ',H',I',q⟩:=q
  exact h2 pins s1 σ' H' D I' q
 | ret v=>exact q
 | brk=>exact q
 | cont=>exact q
theorem zUz (h1:PS X st t):PSs X [st] t:=by
 intro pins s σ H D I h
 refine wpAny_execs_cons (thn (h1 pins s σ H D I h) fun f s1 q=>?_)
 cases f with
 | next=>exact wpAny_execs_nil q
 | ret v=>exact q
 | brk=>exact q
 | cont=>exact q
theorem Inv.quiet {pins:List (Addr × Obj)}{σ:St}{H:Hp}{s:Shared}(I:Inv X pins σ H s):interactive X.env=false:=by simp[interactive,I.ok.kind]
noncomputable def zUa (te:TE):TS:=fun D σ H=>te σ H fun _ H1=>D.nx σ H1
theorem zV3 (he:PE X e te) (hs:swapsWith e none pos.line X.env=pure false:=by rfl):PS X (.Expr e pos) (zUa te):=by
 intro pins s σ H D I h
 exact wpAny_Expr_any (thn (he pins s σ H _ I h) fun v s1 hz1=>by obtain⟨x,H1,I1,r1,q1⟩:=hz1;exact ⟨σ,H1,I1,q1⟩) I.quiet hs
noncomputable def tRet (te:TE):TS:=fun D σ H=>te σ H D.rt
theorem zY2 (he:PE X e te):PS X (.Return (some e) pos) (tRet te):=by
 intro pins s σ H D I h
 exact wpAny_Return_some (thn (he pins s σ H _ I h) fun v s1 hz2=>by obtain⟨x,H1,I1,r1,q1⟩:=hz2;exact ⟨x,σ,H1,I1,r1,q1⟩)
noncomputable def tIfS (c:TT) (t u:TS):TS:=fun D σ H=>c σ H fun b H1=>if b=true then t D σ H1 else u D σ H1
theorem yAg {c:Expr}{a b:List Stmt}{tc:TT}(hc:PT X c tc) (ha:PSs X a t) (hb:PSs X b u):PS X (.If c a b pos) (tIfS tc t u):=by
 intro pins s σ H D I h
 refine wpAny_If (thn (hc pins s σ H _ I h) fun d s1 hq1=>?_)
 obtain⟨H1,I1,q1⟩:=hq1
 cases d with
 | true=>exact ha pins s1 σ H1 D I1 q1
 | false=>exact hb pins s1 σ H1 D I1 q1
end
noncomputable abbrev TG:=V->St->Hp->(St->Hp->Prop)->Prop
noncomputable abbrev TGs:=List V->St->Hp->(St->Hp->Prop)->Prop
noncomputable def PG (X:Cx) (target:Expr) (t:TG):Prop:=
 ∀(pins:List (Addr × Obj)) (s:Shared) (σ:St) (H:Hp) (v:V) (u:Value) (Q:St->Hp->Prop),Inv X pins σ H s->RelV v u->t v σ H Q->
  wpAny (model X.prog X.w) X.A (assign target X.env u) (fun _ s'=>∃σ' H',Inv X pins σ' H' s'/\Q σ' H') X.xe s
noncomputable def PGs (X:Cx) (ts:List Expr) (t:TGs):Prop:=
 ∀(pins:List (Addr × Obj)) (s:Shared) (σ:St) (H:Hp) (vs:List V) (us:List Value) (Q:St->Hp->Prop),Inv X pins σ H s->Vals vs us->t vs σ H Q->
  wpAny (model X.prog X.w) X.A (assignInOrder ((assignEach ts X.env).map (·.2)) us) (fun _ s'=>∃σ' H',Inv X pins σ' H' s'/\Q σ' H') X.xe s
noncomputable abbrev TSet:=V->V->V->Hp->(Hp->Prop)->Prop
noncomputable def PSet (X:Cx) (t:TSet):Prop:=
 ∀(pins:List (Addr × Obj)) (s:Shared) (σ:St) (H:Hp) (o i v:V) (ov iv u:Value) (Q:Hp->Prop),Inv X pins σ H s->RelV o ov->RelV i iv->RelV v u->t o i v H Q->
  wpAny (model X.prog X.w) X.A (setItem ov iv u) (fun _ s'=>∃H',Inv X pins σ H' s'/\Q H') X.xe s
section
variable {X:Cx}{pos:Pos}
noncomputable def gName (i:Nat):TG:=fun v σ H Q=>Q (σ.set i (some v)) H
theorem zV9 {i:Nat}{x:Str}(hN:X.N.Nodup) (hi:X.N[i]?=some x) (hx:Loc X.env.scope x) (hf:X.fn x=true\/X.env.scope.names.lookup x=some .local:=by first|exact .inl rfl|exact .inr rfl|assumption):PG X (.Name x pos) (gName i):=by
 intro pins s σ H v u Q I r h
 exact wpAny_assign_Name (zFy I hN hi hx r (fun s' I'=>⟨_,H,I',h⟩) hf)
noncomputable def gNil:TGs:=fun vs σ H Q=>vs=[]/\Q σ H
noncomputable def zWk (t:TG) (u:TGs):TGs:=fun vs σ H Q=>∃v r,vs=v::r/\t v σ H fun σ' H'=>u r σ' H' Q
theorem zV7:PGs X [] gNil:=by
 intro pins s σ H vs us Q I r h
 obtain⟨e,h⟩:=h
 subst e
 cases r
 exact assignInOrder_nil ⟨σ,H,I,h⟩
theorem zRh {e:Expr}{es:List Expr}{t:TG}{u:TGs}(h1:PG X e t) (h2:PGs X es u)
  (hs:(assignEach (e::es) X.env).map (·.2)=assign e X.env::(assignEach es X.env).map (·.2):=by rfl):PGs X (e::es) (zWk t u):=by
 intro pins s σ H vs us Q I r h
 obtain⟨v,vr,e1,h⟩:=h
 subst e1
 cases r with
 | cons r rr=>
  rw[hs]
  refine assignInOrder_cons (thn (h1 pins s σ H _ _ _ I r h) fun _ s1 hq1=>?_)
  obtain⟨σ1,H1,I1,q1⟩:=hq1
  exact h2 pins s1 σ1 H1 _ _ Q I1 rr q1
noncomputable def gTup (K:PySem.W.Frag) (n:Nat) (t:TGs):TG:=fun v σ H Q=>∃a xs,v=.ref a/\SqT K H a xs/\xs.length=n/\t xs σ H Q
theorem zY7 {es:List Expr}{k:Nat}{t:TGs}{n:Nat}(hc:X.calm=true) (h:PGs X es t)
  (hn:(assignEach es X.env).length=n:=by rfl) (hst:(assignEach es X.env).findIdx? (·.1)=none:=by rfl):PG X (.Tuple es k pos) (gTup X.K n t):=by
 intro pins s σ H v u Q I r hw
 obtain⟨a,xs,e1,hq,hl,hw⟩:=hw
 subst e1
 cases r
 obtain⟨its,rv,ht,hz⟩:=I.tuple hq
 refine assign_Tuple_tuple (I.ok.hd hc) ht (by simp[hn,<- hl,rv.length]) hst fun h' hx=>?_
 have I1:Inv X pins σ H { s with heap:=h' }:=I.kept (t':=s.toks) fun b o e=>hx b o (xq (xl e)) e
 exact h pins _ σ H xs _ Q I1 (by simpa using rv) hw
noncomputable def gSub (to ti:TE) (t:TSet):TG:=fun v σ H Q=>to σ H fun o H1=>ti σ H1 fun i H2=>t o i v H2 fun H3=>Q σ H3
theorem zY8 {o i:Expr}{to ti:TE}{t:TSet}(ho:PE X o to) (hi:PE X i ti) (hs:PSet X t)
  (ha:∀v,assign (.Subscript o i pos) X.env v=(do
   let ov <- holding [v] (eval o X.env)
   let iv <- holding [v,ov] (eval i X.env)
   standAt pos
   holding [v,ov,iv] (setItem ov iv v)
   release [v,ov,iv] []):=by intro _;rfl):PG X (.Subscript o i pos) (gSub to ti t):=by
 intro pins s σ H v u Q I r h
 rw[ha]
 refine xa (xF (thn (ho pins s σ H _ I h) fun ov s1 hq1=>?_))
 obtain⟨x,H1,I1,r1,q1⟩:=hq1
 refine xa (xF (thn (hi pins s1 σ H1 _ I1 q1) fun iv s2 hq1=>?_))
 obtain⟨y,H2,I2,r2,q2⟩:=hq1
 refine xa (wpAny_standAt (xa (xF (thn (hs pins s2 σ H2 x y v ov iv u _ I2 r1 r2 r q2) fun _ s3 hq1=>?_))))
 obtain⟨H3,I3,q3⟩:=hq1
 exact wpAny_release ⟨σ,H3,I3,q3⟩
noncomputable def tAsg (te:TE) (g:TG):TS:=fun D σ H=>te σ H fun x H1=>g x σ H1 D.nx
theorem zOf {tg e:Expr}{te:TE}{g:TG}(he:PE X e te) (hg:PG X tg g) (hs:swapsWithSole [tg] e pos.line X.env=pure false:=by rfl) (hw:swappedStores [tg] e X.env=pure none:=by rfl)
  (h1:(assignEach [tg] X.env).map (·.2)=[assign tg X.env]:=by rfl):PS X (.Assign [tg] e pos) (tAsg te g):=by
 intro pins s σ H D I h
 refine wpAny_Assign_stores (thn (he pins s σ H _ I h) fun v s1 hq1=>?_) hs hw
 obtain⟨x,H1,I1,r1,q1⟩:=hq1
 rw[h1]
 exact thn (hg pins s1 σ H1 x v _ I1 r1 q1) fun _ s2 q=>q
theorem zTa {i:Nat}{x:Str}{e:Expr}{te:TE}{pos':Pos}(hN:X.N.Nodup) (hi:X.N[i]?=some x) (hx:Loc X.env.scope x) (he:PE X e te) (hs:swapsWith e (some (.Name x pos')) pos.line X.env=pure false:=by rfl) (hf:X.fn x=true\/X.env.scope.names.lookup x=some .local:=by first|exact .inl rfl|exact .inr rfl|assumption):
  PS X (.Assign [.Name x pos'] e pos) (tAsg te (gName i)):=by
 intro pins s σ H D I h
 refine wpAny_Assign_Name (thn (he pins s σ H _ I h) fun v s1 hq1=>?_) hs
 obtain⟨y,H1,I1,r1,q1⟩:=hq1
 exact zFy I1 hN hi hx r1 (fun s2 I2=>⟨_,H1,I2,q1⟩) hf
noncomputable def tPar (i j:Nat) (ta:TA):TS:=fun D σ H=>ta σ H fun vs H1=>∃v w,vs=[v,w]/\D.nx ((σ.set i (some v)).set j (some w)) H1
theorem zY3 {i j:Nat}{x y:Str}{a b:Expr}{ta:TA}{px py pt:Pos}{kt k2 pt2} (hc:X.calm=true) (hN:X.N.Nodup) (hi:X.N[i]?=some x) (hj:X.N[j]?=some y) (hij:i≠j)
  (hx:X.env.scope.names.lookup x=some .local) (hy:X.env.scope.names.lookup y=some .local) (ha:PA X [a,b] ta)
  (hw:swappedStores [.Tuple [.Name x px,.Name y py] kt pt] (.Tuple [a,b] k2 pt2) X.env=pure (some [x,y]))
  (hs:swapsWithSole [.Tuple [.Name x px,.Name y py] kt pt] (.Tuple [a,b] k2 pt2) pos.line X.env=pure false:=by rfl):
  PS X (.Assign [.Tuple [.Name x px,.Name y py] kt pt] (.Tuple [a,b] k2 pt2) pos) (tPar i j ta):=by
 intro pins s σ H D I h
 rw[exec_Assign_arm]
 refine xa (wpAny_standAt ?_)
 rw[hs]
 refine xa (xg ?_)
 rw[xf (by decide)]
 refine xa (Tuple_ (thn (ha _ pins s σ H _ I h) fun us s1 hq1=>?_))
 obtain⟨vs,H1,I1,r1,q1⟩:=hq1
 obtain⟨v,w,e1,q1⟩:=q1
 subst e1
 obtain⟨u1,u2,rfl,rv,rw'⟩:∃u1 u2,us=[u1,u2]/\RelV v u1/\RelV w u2:=by
  cases r1 with
  | cons p q=>
   cases q with
   | cons p' q'=>
    cases q'
    exact⟨_,_,rfl,p,p'⟩
 refine vd ?_ (by show 2<=sizeLine;decide)
 have I2:Inv X pins σ H1 { s1 with heap:=s1.heap.push { cls:=.type "tuple",data:=.seq [u1,u2].toArray } }:=I1.kept (t':=s1.toks) fun b o e=>xj _ e
 rw[hw]
 refine xa (xg ?_)
 show wpAny (model X.prog X.w) X.A (do rule "assign.swapped-stores";let items <- unpackItems (.ref s1.heap.objs.size) 2 none;assignInOrder [fun v=>bindName X.env y v,fun v=>bindName X.env x v] items.reverse;pure Flow.next) _ _ _
 refine xa (wpAny_rule (xa (unpackItems_tuple (items:=#[u1,u2]) (I.ok.hd hc) (IsTup.new s1.heap _) fun h' hx'=>?_)))
 have I3:=I2.kept (h':=h') (t':=s1.toks) fun b o e=>hx' b o (xq (xl e)) e
 show wpAny _ _ (assignInOrder [fun v=>bindName X.env y v,fun v=>bindName X.env x v] [u2,u1] >>= fun _=>pure Flow.next) _ _ _
 refine xa (assignInOrder_cons (wpAny_bindName (zFy I3 hN hj (.inl hy) rw' (fun s2 I4=>?_) (.inr hy))))
 refine assignInOrder_cons (wpAny_bindName (zFy I4 hN hi (.inl hx) rv (fun s3 I5=>assignInOrder_nil (xg ?_)) (.inr hx)))
 rw[List.set_comm _ _ (xo hij)]at I5
 exact⟨_,H1,I5,q1⟩
end
section
variable {X:Cx}{pos:Pos}
noncomputable def zT6 (c:TT) (tb:TS):TS:=fun D σ H=>∃W:Nat->St->Hp->Prop,(∃m,W m σ H)/\∀m σ H,W m σ H->
 c σ H fun b H1=>if b=true then ∃N:St->Hp->Prop,(∀σ' H',N σ' H'->∃m',m'<m/\W m' σ' H')/\tb { D with nx:=N,ct:=N,bk:=D.nx } σ H1 else D.nx σ H1
theorem zR8 {c:Expr}{body:List Stmt}{tc:TT}{tb:TS}(hp:PassesOwn (model X.prog X.w) X.A X.env X.xe) (hc:PT X c tc) (hb:PSs X body tb):PS X (.While c body [] pos) (zT6 tc tb):=by
 intro pins s σ H D I h
 obtain⟨W,⟨m0,w0⟩,turn⟩:=h
 refine wpAny_While (codeAny_whileLoop (fun n s'=>∃σ' H',Inv X pins σ' H' s'/\W n σ' H') ?_ m0 ⟨σ,H,I,w0⟩)
 rintro n s1 ⟨σ1,H1,I1,w1⟩
 refine uo hp (thn (hc pins s1 σ1 H1 _ I1 (turn n σ1 H1 w1)) fun b s2 hq1=>?_)
 obtain⟨H2,I2,q2⟩:=hq1
 cases b with
 | true=>
  obtain⟨N,hN,q2⟩:=q2
  rw[xc rfl]
  refine uo hp (thn (hb pins s2 σ1 H2 _ I2 q2) fun f s3 q3=>?_)
  cases f with
  | next=>
   obtain⟨σ3,H3,I3,n3⟩:=q3
   obtain⟨m',hm,w3⟩:=hN σ3 H3 n3
   exact⟨m',hm,σ3,H3,I3,w3⟩
  | cont=>
   obtain⟨σ3,H3,I3,n3⟩:=q3
   obtain⟨m',hm,w3⟩:=hN σ3 H3 n3
   exact⟨m',hm,σ3,H3,I3,w3⟩
  | brk=>exact q3
  | ret v=>exact q3
 | false=>
  rw[xf Bool.false_ne_true]
  exact wpAny_execs_nil ⟨σ1,H2,I2,q2⟩
end
structure It where
 go:Nat->Hp->Prop
 yld:Nat->Hp->V->Hp->Prop
 stop:Nat->Hp->Prop
noncomputable def FpOk (X:Cx) (pins:List (Addr × Obj)) (H:Hp) (b:Addr):Prop:=
 H b=none/\b≠X.env.locals/\b ∉ X.fs/\(b∈X.ex\/X.s₀.heap.objs.size<=b)/\(∀x c,X.env.cells.lookup x=some c->c≠b)/\∀p∈X.pn++pins,p.1≠b
theorem Inv.fpOk {X:Cx}{pins:List (Addr × Obj)}{σ:St}{H H':Hp}{s:Shared}{b:Addr}(I:Inv X pins σ H s) (hb:s.heap.objs.size<=b) (hn:H' b=none):FpOk X pins H' b:=by
 refine⟨hn,vC (xr I.lt hb),I.nofs hb,.inr (xH I.sz hb),fun x c e z=>?_,fun p hp z=>?_⟩
 ·obtain⟨v,q⟩:=I.cell x c e
  exact absurd (xr q.lt (by rw[z];exact hb)) (vt _)
 ·exact absurd (xr (xl (I.pin p hp).1) (by rw[z];exact hb)) (vt _)
structure Turn (P:Program) (w:World) (K:PySem.W.Frag) (tg:Expr) (J:It) (fp:List Addr) (it:Addr) (tn:Nat->Heap->Prop):Prop where
 mem:it∈fp
 obj:∀i h,tn i h->∀b∈fp,∃o,h.get? b=some o/\∀v,o.data≠.cell v
 keep:∀i h h',tn i h->(∀b∈fp,∀o,h.get? b=some o->h'.get? b=some o)->tn i h'
 item:∀(X:Cx),X.prog=P->X.w=w->X.K=K->X.calm=true->∀(i:Nat) (pins:List (Addr × Obj)) (s:Shared) (σ:St) (H:Hp) (E:Value->Shared->Prop),Inv X pins σ H s->(∀b∈fp,FpOk X pins H b)->tn i s.heap->J.go i H->
  wpAny (model P w) X.A (pyNext (.ref it)) (fun r s1=>∃u,r=some u /\
   wpAny (model P w) X.A (letOwnedTupleGo tg (.ref it) u) (fun _ s2=>∃x H',Inv X pins σ H' s2/\RelV x u/\J.yld i H x H'/\tn (i+1) s2.heap/\∀b∈fp,H' b=none) E s1) E s
 done:∀(X:Cx),X.prog=P->X.w=w->X.K=K->X.calm=true->∀(i:Nat) (pins:List (Addr × Obj)) (s:Shared) (σ:St) (H:Hp) (E:Value->Shared->Prop),Inv X pins σ H s->(∀b∈fp,FpOk X pins H b)->tn i s.heap->J.stop i H->
  wpAny (model P w) X.A (pyNext (.ref it)) (fun r s1=>r=none/\Inv X pins σ H s1) E s
 self:∀(A:Around) (i:Nat) (s:Shared) (Q:Value->Shared->Prop) (E:Value->Shared->Prop),tn i s.heap->Q (.ref it) s->wpAny (model P w) A (pyIter (.ref it)) Q E s
noncomputable abbrev TI:=St->Hp->(It->Hp->Prop)->Prop
noncomputable def PIE (X:Cx) (pins:List (Addr × Obj)) (σ:St) (tg:Expr) (R:It->Hp->Prop) (itv:Value) (s2:Shared):Prop:=
 ∃(it:Addr) (fp:List Addr) (tn:Nat->Heap->Prop) (J:It) (H':Hp),itv=.ref it/\Inv X pins σ H' s2/\Turn X.prog X.w X.K tg J fp it tn/\tn 0 s2.heap/\(∀b∈fp,FpOk X pins H' b)/\R J H'
noncomputable def PI (X:Cx) (tg iter:Expr) (wi:TI):Prop:=
 ∀(pins:List (Addr × Obj)) (s:Shared) (σ:St) (H:Hp) (R:It->Hp->Prop),Inv X pins σ H s->wi σ H R->
  wpAny (model X.prog X.w) X.A (eval iter X.env) (fun v s1=>wpAny (model X.prog X.w) X.A (pyIter v) (PIE X pins σ tg R) X.xe s1) X.xe s
theorem zWi {M:Model}{A:Around}{E:Value->Shared->Prop}{s:Shared}{tg:Expr}{it:Addr}{u:Value}{o:Obj}{n:String}{vs:Array Value}{Q:Unit->Shared->Prop}(ho:s.heap.get? it=some o) (hc:o.cls=.type n) (hd:o.data=.fields vs)
    (hn:["enumerate","zip","dict_itemiterator","dict_reverseitemiterator","odict_iterator","itertools.zip_longest","itertools.pairwise"].contains n=false) (hQ:Q () s):wpAny M A (letOwnedTupleGo tg (.ref it) u) Q E s:=by
  unfold letOwnedTupleGo
  cases tg <;> first
    | exact xg hQ
    | (cases u <;> first
        | exact xg hQ
        | (refine xa (wpAny_load ho ?_)
           rw[hc,hd]
           show wpAny M A (if(["enumerate","zip","dict_itemiterator","dict_reverseitemiterator","odict_iterator","itertools.zip_longest","itertools.pairwise"].contains n && vs[0]? == some (rawInt _))=true then _ else _) Q E s
           rw[xf (by intro h;rw[hn,Bool.false_and]at h;cases h)]
           exact xg hQ))
noncomputable def Itl (K:PySem.W.Frag) (a:Addr):It:=
 ⟨fun i H=>∃xs x,SqL K H a xs/\xs[i]?=some x,fun i H x H'=>H'=H/\∀xs,SqL K H a xs->xs[i]?=some x,fun i H=>∃xs,SqL K H a xs/\xs.length<=i⟩
noncomputable def Itt (K:PySem.W.Frag) (a:Addr):It:=
 ⟨fun i H=>∃xs x,SqT K H a xs/\xs[i]?=some x,fun i H x H'=>H'=H/\∀xs,SqT K H a xs->xs[i]?=some x,fun i H=>∃xs,SqT K H a xs/\xs.length<=i⟩
noncomputable def Itr (lo:Int) (n:Nat):It:=⟨fun i _=>i<n,fun i H x H'=>H'=H/\x=.int (lo+i),fun i _=>n<=i⟩
theorem zNr {P:Program}{w:World}{K:PySem.W.Frag}{tg:Expr}(a it:Addr):Turn P w K tg (Itl K a) [it] it (fun i h=>h.IsListIter it a i) where
 mem:=by simp
 obj:=fun i h st b hb=>by
  have e:b=it:=by simpa using hb
  subst e
  obtain⟨o,e,c,d⟩:=st
  exact⟨o,e,fun v z=>by rw[d]at z;cases z⟩
 keep:=fun i h h' st k=>st.at fun o e=>k it (by simp) o e
 item:=by
  intro X hP hw hK hc i pins s σ H E I hf st hg
  subst hP hw hK
  obtain⟨xs,x,hq,hx⟩:=hg
  obtain⟨its,rv,p,hz⟩:=I.list hq
  obtain⟨u,hu,ru⟩:=rv.get hx
  obtain⟨f0,f1,f2,f3,f4,f5⟩:=hf it (by simp)
  refine wpAny_pyNext_list_item st p.isList (x:=u) (by simpa using hu) fun h' st' sb=>?_
  have I1:Inv X pins σ H { s with heap:=h' }:=I.turned (t':=s.toks) (fun b o hb e=>(sb.2 b hb).trans e) f0 f1 f3 f4 f5
  obtain⟨o,e,c,d⟩:=id st'
  exact⟨u,rfl,zWi (s:={ s with heap:=h' }) e c d (by decide) ⟨x,H,I1,ru,⟨rfl,fun ys hy=>by rw[I.list_inj hy hq];exact hx⟩,st',fun b hb=>(hf b hb).1⟩⟩
 done:=by
  intro X hP hw hK hc i pins s σ H E I hf st hg
  subst hP hw hK
  obtain⟨xs,hq,hx⟩:=hg
  obtain⟨its,rv,p,hz⟩:=I.list hq
  obtain⟨f0,f1,f2,f3,f4,f5⟩:=hf it (by simp)
  have hl:=rv.length
  exact wpAny_pyNext_list_end (I.ok.hd hc) st p.isList (by simp;lia) fun h' eb=>⟨rfl,I.turned (t':=s.toks) (fun b o hb e=>eb b o hb e) f0 f1 f3 f4 f5⟩
 self:=fun _ _ _ _ _ st h=>wpAny_pyIter_listiter st h
theorem zMj {P:Program}{w:World}{K:PySem.W.Frag}{tg:Expr}(a it:Addr):Turn P w K tg (Itt K a) [it] it (fun i h=>h.IsTupleIter it a i) where
 mem:=by simp
 obj:=fun i h st b hb=>by
  have e:b=it:=by simpa using hb
  subst e
  obtain⟨o,e,c,d⟩:=st
  exact⟨o,e,fun v z=>by rw[d]at z;cases z⟩
 keep:=fun i h h' st k=>st.at fun o e=>k it (by simp) o e
 item:=by
  intro X hP hw hK hc i pins s σ H E I hf st hg
  subst hP hw hK
  obtain⟨xs,x,hq,hx⟩:=hg
  obtain⟨its,rv,p,hz⟩:=I.tuple hq
  obtain⟨u,hu,ru⟩:=rv.get hx
  obtain⟨f0,f1,f2,f3,f4,f5⟩:=hf it (by simp)
  refine wpAny_pyNext_tuple_item st (show s.heap.IsTuple a its.toArray from p) (x:=u) (by simpa using hu) fun h' st' sb=>?_
  have I1:Inv X pins σ H { s with heap:=h' }:=I.turned (t':=s.toks) (fun b o hb e=>(sb.2 b hb).trans e) f0 f1 f3 f4 f5
  obtain⟨o,e,c,d⟩:=id st'
  exact⟨u,rfl,zWi (s:={ s with heap:=h' }) e c d (by decide) ⟨x,H,I1,ru,⟨rfl,fun ys hy=>by rw[I.tuple_inj hy hq];exact hx⟩,st',fun b hb=>(hf b hb).1⟩⟩
 done:=by
  intro X hP hw hK hc i pins s σ H E I hf st hg
  subst hP hw hK
  obtain⟨xs,hq,hx⟩:=hg
  obtain⟨its,rv,p,hz⟩:=I.tuple hq
  obtain⟨f0,f1,f2,f3,f4,f5⟩:=hf it (by simp)
  have hl:=rv.length
  exact wpAny_pyNext_tuple_end (I.ok.hd hc) st (show s.heap.IsTuple a its.toArray from p) (by simp;lia) fun h' eb=>⟨rfl,I.turned (t':=s.toks) (fun b o hb e=>eb b o hb e) f0 f1 f3 f4 f5⟩
 self:=fun _ _ _ _ _ st h=>wpAny_pyIter_tupleiter st h
theorem zMk {P:Program}{w:World}{K:PySem.W.Frag}{tg:Expr}(it:Addr) (lo:Int) (n:Nat):Turn P w K tg (Itr lo n) [it] it (fun i h=>IsRangeIter h it (lo+(i:Nat)*1) ((n:Int)-(i:Nat)) 1) where
 mem:=by simp
 obj:=fun i h st b hb=>by
  have e:b=it:=by simpa using hb
  subst e
  exact⟨_,st,fun v z=>by
   have z':Data.fields _=Data.cell v:=z
   cases z'⟩
 keep:=fun i h h' st k=>k it (by simp) _ st
 item:=by
  intro X hP hw hK hc i pins s σ H E I hf st hg
  subst hP hw hK
  obtain⟨f0,f1,f2,f3,f4,f5⟩:=hf it (by simp)
  have W:=Walks.range (prog:=X.prog) (w:=X.w) (I.ok.hd hc) it lo 1 n
  refine W.item i s _ _ hg st fun v h' tk hv st' kk=>?_
  obtain⟨t,rfl⟩:=hv
  have I1:Inv X pins σ H { s with heap:=h',toks:=tk }:=I.turned (fun b o hb e=>kk b o (by simpa using hb) e) f0 f1 f3 f4 f5
  refine⟨_,rfl,zWi (s:={ s with heap:=h',toks:=tk }) (n:="range_iterator") st' rfl rfl (by decide) ⟨.int (lo+i),H,I1,⟨t,?_⟩,⟨rfl,rfl⟩,st',fun b hb=>(hf b hb).1⟩⟩
  rw[Int.mul_one]
 done:=by
  intro X hP hw hK hc i pins s σ H E I hf st hg
  subst hP hw hK
  obtain⟨f0,f1,f2,f3,f4,f5⟩:=hf it (by simp)
  exact wpAny_pyNext_range_end (I.ok.hd hc) st (by have:n<=i:=hg;lia) fun h' eb=>⟨rfl,I.turned (t':=s.toks) (fun b o hb e=>eb b o hb e) f0 f1 f3 f4 f5⟩
 self:=fun _ _ _ _ _ st h=>wpAny_pyIter_rangeiter st h
end L2
namespace L2
open PySem PySem.Spec PyProof.Rows
section
variable {X:Cx}{tg:Expr}
theorem zLd {pins:List (Addr × Obj)}{σ:St}{H:Hp}{s:Shared}{R:It->Hp->Prop}{E:Value->Shared->Prop}{lo hi:Int}{t u v:Tok}{tk:Nat}(I:Inv X pins σ H s) (h1:-(2 ^ 62)<=lo) (h2:lo<2 ^ 62) (h3:-(2 ^ 62)<=hi) (h4:hi<2 ^ 62)
  (q:R (Itr lo (hi-lo).toNat) H):wpAny (model X.prog X.w) X.A (pyIter (.ref s.heap.objs.size)) (PIE X pins σ tg R) E { s with heap:=s.heap.push { cls:=.type "range",data:=.fields #[.int lo t,.int hi u,.int 1 v] },toks:=tk }:=by
 refine wpAny_pyIter_range (IsRange.new ..) (small_one h1 h2 h3 h4) ?_
 have I1:Inv X pins σ H { s with heap:=s.heap.push { cls:=.type "range",data:=.fields #[.int lo t,.int hi u,.int 1 v] },toks:=tk }:=I.kept fun b o e=>xj _ e
 refine⟨(s.heap.push { cls:=.type "range",data:=.fields #[.int lo t,.int hi u,.int 1 v] }).objs.size,[(s.heap.push { cls:=.type "range",data:=.fields #[.int lo t,.int hi u,.int 1 v] }).objs.size],_,_,H,rfl,
  I1.kept (t':=tk) fun b o e=>xj _ e,zMk _ lo (hi-lo).toNat,?_,fun b hb=>?_,q⟩
 ·have e1:lo+((0:Nat):Int)*1=lo:=by simp
  have e2:(((hi-lo).toNat:Nat):Int)-((0:Nat):Int)=Builtin.Range.rangeSize lo hi 1:=by rw[rangeSize_one];split <;> lia
  show IsRangeIter _ _ (lo+((0:Nat):Int)*1) ((((hi-lo).toNat:Nat):Int)-((0:Nat):Int)) 1
  rw[e1,e2]
  exact xu _ rfl
 ·have e:b=(s.heap.push { cls:=.type "range",data:=.fields #[.int lo t,.int hi u,.int 1 v] }).objs.size:=by simpa using hb
  subst e
  exact I1.fpOk (xh _) (I1.hok.fresh (xh _))
noncomputable def zWd (ta:TA):TI:=fun σ H R=>ta σ H fun vs H1=>∃j:Int,vs=[.int j]/\-(2 ^ 62)<=j/\j<2 ^ 62/\R (Itr 0 j.toNat) H1
noncomputable def zWc (ta:TA):TI:=fun σ H R=>ta σ H fun vs H1=>∃i j:Int,vs=[.int i,.int j]/\(-(2 ^ 62)<=i/\i<2 ^ 62/\-(2 ^ 62)<=j/\j<2 ^ 62)/\R (Itr i (j-i).toNat) H1
theorem zOq {a:Expr}{ta:TA}{p pos:Pos}(hg:Gl X "range") (hm:X.mg "range"=none) (ha:PA X [a] ta) (hs:starEach [a] X.env=[(false,eval a X.env)]:=by rfl):PI X tg (.Call (.Name "range" p) [a] [] pos) (zWd ta):=by
 intro pins s σ H R I h
 refine Call_ (zDk I hg hm boot_range (v9 (thn (ha pos pins s σ H _ I h) fun us s1 hq1=>?_) hs rfl))
 obtain⟨vs,H1,I1,r1,q1⟩:=hq1
 obtain⟨j,e,q1,q2,q⟩:=q1
 subst e
 cases r1 with
 | cons r rr=>
  cases rr
  obtain⟨t,rfl⟩:=r
  exact call_range_1 (zLd I1 (by nofun) (by nofun) q1 q2 (by simpa using q))
theorem zOp {a b:Expr}{ta:TA}{p pos:Pos}(hg:Gl X "range") (hm:X.mg "range"=none) (ha:PA X [a,b] ta) (hs:starEach [a,b] X.env=[(false,eval a X.env),(false,eval b X.env)]:=by rfl) (hs2:starEach [b] X.env=[(false,eval b X.env)]:=by rfl):
  PI X tg (.Call (.Name "range" p) [a,b] [] pos) (zWc ta):=by
 intro pins s σ H R I h
 refine Call_ (zDk I hg hm boot_range (v9 (thn (ha pos pins s σ H _ I h) fun us s1 ⟨vs,H1,I1,r1,q1⟩=>?_) (by rw[hs,hs2]) (by rw[hs2];rfl)))
 obtain⟨i,j,e,⟨q1,q2,q3,q4⟩,q⟩:=q1
 subst e
 cases r1 with
 | cons r rr=>
  cases rr with
  | cons r' rr=>
   cases rr
   obtain⟨t,rfl⟩:=r
   obtain⟨t',rfl⟩:=r'
   exact call_range_2 (zLd I1 q1 q2 q3 q4 q)
noncomputable def tFor (wi:TI) (g:TG) (tb:TS):TS:=fun D σ H=>wi σ H fun J H1=>∃W:Nat->Nat->St->Hp->Prop,(∃m,W 0 m σ H1)/\∀i m σ H,W i m σ H->
 (J.stop i H/\D.nx σ H)\/(J.go i H/\∃N:St->Hp->Prop,(∀σ' H',N σ' H'->∃m',m'<m/\W (i+1) m' σ' H')/\∀x H',J.yld i H x H'->g x σ H' fun σ2 H2=>tb { D with nx:=N,ct:=N,bk:=D.nx } σ2 H2)
noncomputable def zIw (fp:List Addr) (h:Heap):List (Addr × Obj):=fp.filterMap fun b=>(h.get? b).map fun o=>(b,o)
theorem zE2 {fp:List Addr}{h:Heap}{b:Addr}{o:Obj}(hb:b∈fp) (e:h.get? b=some o):(b,o)∈zIw fp h:=u7.mpr ⟨b,hb,by rw[e];rfl⟩
theorem zP3 {fp:List Addr}{h:Heap}{p:Addr × Obj}(hp:p∈zIw fp h):p.1∈fp/\h.get? p.1=some p.2:=by
 obtain⟨b,hb,e⟩:=u7.mp hp
 cases q:h.get? b with
 | none=>rw[q]at e;cases e
 | some o=>
  rw[q]at e
  have e':(b,o)=p:=xE e
  subst e'
  exact⟨hb,q⟩
theorem Inv.pinned {pins:List (Addr × Obj)}{σ:St}{H:Hp}{s:Shared}{fp:List Addr}(I:Inv X pins σ H s) (hf:∀b∈fp,FpOk X pins H b) (ho:∀b∈fp,∃o,s.heap.get? b=some o/\∀v,o.data≠.cell v):Inv X (pins++zIw fp s.heap) σ H s:=
 I.pins_of fun p hp=>(vc.mp hp).elim (fun z=>I.pin p (vp _ z)) fun z=>by
  obtain⟨hb,e⟩:=zP3 z
  obtain⟨f0,f1,f2,_⟩:=hf p.1 hb
  obtain⟨o,e',d⟩:=ho p.1 hb
  rw[e]at e';cases e'
  exact⟨e,f0,f1,f2,d⟩
theorem Inv.unpinned {pins pl:List (Addr × Obj)}{σ:St}{H:Hp}{s:Shared}(I:Inv X (pins++pl) σ H s):Inv X pins σ H s:=I.pins_of fun p hp=>I.pin p (vp _ (u6 _ hp))
theorem zY5 {iter:Expr}{body:List Stmt}{wi:TI}{g:TG}{tb:TS}{pos:Pos}(hp:PassesOwn (model X.prog X.w) X.A X.env X.xe) (hc:X.calm=true) (hi:PI X tg iter wi) (hg:PG X tg g) (hb:PSs X body tb)
  (hs:∀x,foldedSetIterable iter X.env x=pure x:=by intro _;rfl):PS X (.For tg iter body [] pos) (tFor wi g tb):=by
 intro pins s σ H D I h
 refine wpAny_For (thn (hi pins s σ H _ I h) fun v s1 h1=>thn h1 fun itv s2 h2=>?_) hs
 obtain⟨it,fp,tn,J,H2,e,I2,T,st2,f2,W,⟨m0,w0⟩,turn⟩:=h2
 subst e
 -- what stays true of the iterator's objects through the loop
 have stat:∀{H':Hp},(∀b∈fp,H' b=none)->∀b∈fp,FpOk X pins H' b:=fun hn b hb=>⟨hn b hb,(f2 b hb).2⟩
 refine codeAny_forLoop_any (fun n s'=>∃i σ' H',Inv X pins σ' H' s'/\tn i s'.heap/\(∀b∈fp,H' b=none)/\W i n σ' H') ?_ m0 ⟨0,σ,H2,I2,st2,fun b hb=>(f2 b hb).1,w0⟩
 rintro n s3 ⟨i,σ3,H3,I3,st3,fr3,w3⟩
 rcases turn i n σ3 H3 w3 with⟨stop,qn⟩|⟨go,N,hN,step⟩
 ·refine uo hp (thn (T.done X rfl rfl rfl hc i pins s3 σ3 H3 X.xe I3 (stat fr3) st3 stop) fun r s4 hq1=>?_)
  obtain⟨hr,I4⟩:=hq1
  subst hr
  exact wpAny_execs_nil ⟨σ3,H3,I4,qn⟩
 ·refine uo hp (thn (T.item X rfl rfl rfl hc i pins s3 σ3 H3 X.xe I3 (stat fr3) st3 go) fun r s4 hq1=>?_)
  obtain⟨u,hr,h4⟩:=hq1
  subst hr
  refine uo hp (thn h4 fun _ s5 hq1=>?_)
  obtain⟨x,H5,I5,r5,y5,st5,fr5⟩:=hq1
  have I5':=I5.pinned (stat fr5) (T.obj _ _ st5)
  refine uo hp (thn (hg _ s5 σ3 H5 x u _ I5' r5 (step x H5 y5)) fun _ s6 hq1=>?_)
  obtain⟨σ6,H6,I6,q6⟩:=hq1
  refine uo hp (thn (hb _ s6 σ6 H6 _ I6 q6) fun f s7 q7=>?_)
  have again:∀{σ7:St}{H7:Hp},Inv X (pins++zIw fp s5.heap) σ7 H7 s7->N σ7 H7->∃m,m<n/\∃i σ' H',Inv X pins σ' H' s7/\tn i s7.heap/\(∀b∈fp,H' b=none)/\W i m σ' H':=fun {σ7 H7} I7 n7=>by
   obtain⟨m',hm,w7⟩:=hN σ7 H7 n7
   refine⟨m',hm,i+1,σ7,H7,I7.unpinned,T.keep _ _ _ st5 fun b hb o e=>(I7.pin (b,o) (vp _ (vp _ (zE2 hb e)))).1,fun b hb=>?_,w7⟩
   obtain⟨o,e,d⟩:=T.obj _ _ st5 b hb
   exact(I7.pin (b,o) (vp _ (vp _ (zE2 hb e)))).2.1
  cases f with
  | next=>obtain⟨σ7,H7,I7,n7⟩:=q7;exact again I7 n7
  | cont=>obtain⟨σ7,H7,I7,n7⟩:=q7;exact again I7 n7
  | brk=>obtain⟨σ7,H7,I7,q7⟩:=q7;exact⟨σ7,H7,I7.unpinned,q7⟩
  | ret v=>obtain⟨x7,σ7,H7,I7,r7,q7⟩:=q7;exact⟨x7,σ7,H7,I7.unpinned,r7,q7⟩
end
end L2
namespace L2
open PySem PySem.Spec PyProof.Rows
noncomputable abbrev R2:=V->V->Hp->VK->Prop
noncomputable def OpR (X:Cx) (f:Value->Value->Sem Value) (r:R2):Prop:=
 ∀(pins:List (Addr × Obj)) (s:Shared) (σ:St) (H:Hp) (x y:V) (v u:Value) (Q:VK),Inv X pins σ H s->RelV x v->RelV y u->r x y H Q->
  wpAny (model X.prog X.w) X.A (f v u) (EP X pins σ Q) X.xe s
noncomputable def UnR (X:Cx) (f:Value->Sem Value) (r:V->Hp->VK->Prop):Prop:=
 ∀(pins:List (Addr × Obj)) (s:Shared) (σ:St) (H:Hp) (x:V) (v:Value) (Q:VK),Inv X pins σ H s->RelV x v->r x H Q->
  wpAny (model X.prog X.w) X.A (f v) (EP X pins σ Q) X.xe s
noncomputable def zCb (X:Cx) (f:Value) (r:List V->Hp->VK->Prop):Prop:=
 ∀(pins:List (Addr × Obj)) (s:Shared) (σ:St) (H:Hp) (xs:List V) (us:List Value) (Q:VK),Inv X pins σ H s->Vals xs us->r xs H Q->
  wpAny (model X.prog X.w) X.A (call f us) (EP X pins σ Q) X.xe s
noncomputable def TruR (X:Cx) (r:V->Hp->(Bool->Hp->Prop)->Prop):Prop:=
 ∀(pins:List (Addr × Obj)) (s:Shared) (σ:St) (H:Hp) (x:V) (v:Value) (Q:Bool->Hp->Prop),Inv X pins σ H s->RelV x v->r x H Q->
  wpAny (model X.prog X.w) X.A (truthy v) (TP X pins σ Q) X.xe s
noncomputable def tOp (r:R2) (ta tb:TE):TE:=fun σ H Q=>ta σ H fun x H1=>tb σ H1 fun y H2=>r x y H2 Q
noncomputable def tUn (r:V->Hp->VK->Prop) (ta:TE):TE:=fun σ H Q=>ta σ H fun x H1=>r x H1 Q
noncomputable def rI (C:Int->Int->Prop) (g:Int->Int->V):R2:=fun x y H Q=>∃i j,x=.int i/\y=.int j/\C i j/\Q (g i j) H
noncomputable def rI0 (g:Int->Int->V):R2:=fun x y H Q=>∃i j,x=.int i/\y=.int j/\Q (g i j) H
noncomputable def rU (g:Int->V):V->Hp->VK->Prop:=fun x H Q=>∃i,x=.int i/\Q (g i) H
section
variable {X:Cx}{a b c:Expr}{ta tb tc:TE}{pos:Pos}
theorem binT (ha:PE X a ta) (hb:PE X b tb) {pins:List (Addr × Obj)}{s:Shared}{σ:St}{H:Hp}{R:V->V->Hp->Prop}(I:Inv X pins σ H s)
  (h:ta σ H fun x H1=>tb σ H1 fun y H2=>R x y H2) {Q:Value->Shared->Prop}{f:Value->Value->Sem Value}
  (hf:∀v u s2 x y H2,Inv X pins σ H2 s2->RelV x v->RelV y u->R x y H2->wpAny (model X.prog X.w) X.A (f v u) Q X.xe s2):
  wpAny (model X.prog X.w) X.A (eval a X.env) (fun v s₁=>wpAny (model X.prog X.w) X.A (eval b X.env) (fun u s₂=>wpAny (model X.prog X.w) X.A (f v u) Q X.xe s₂) X.xe s₁) X.xe s:=by
 refine thn (ha pins s σ H _ I h) fun v s1 hq1=>?_
 obtain⟨x,H1,I1,r1,q1⟩:=hq1
 refine thn (hb pins s1 σ H1 _ I1 q1) fun u s2 hq1=>?_
 obtain⟨y,H2,I2,r2,q2⟩:=hq1
 exact hf v u s2 x y H2 I2 r1 r2 q2
theorem yAi {op:Operator}{r:R2}(ho:OpR X (binaryOp op) r) (ha:PE X a ta) (hb:PE X b tb):PE X (.BinOp a op b pos) (tOp r ta tb):=by
 intro pins s σ H Q I h
 exact wpAny_BinOp (binT ha hb I h fun v u s2 x y H2 I2 rx ry q=>ho pins s2 σ H2 x y v u Q I2 rx ry q)
theorem yAh {op:UnaryOp}{r:V->Hp->VK->Prop}(ho:UnR X (unaryOp op) r) (ha:PE X a ta):PE X (.UnaryOp op a pos) (tUn r ta):=by
 intro pins s σ H Q I h
 exact UnaryOp_ (thn (ha pins s σ H _ I h) fun v s1 hz3=>by obtain⟨x,H1,I1,r1,q1⟩:=hz3;exact ho pins s1 σ H1 x v Q I1 r1 q1)
theorem opI {f:Value->Value->Sem Value}{C:Int->Int->Prop}{g:Int->Int->Int}
  (rule:∀(i j:Int) (t u:Tok) (s:Shared) (Q:Value->Shared->Prop) (E:Value->Shared->Prop),C i j->Q (.int (g i j) s.toks) { s with toks:=s.toks+1 }->wpAny (model X.prog X.w) X.A (f (.int i t) (.int j u)) Q E s):
  OpR X f (rI C fun i j=>.int (g i j)):=by
 intro pins s σ H x y v u Q I rx ry h
 obtain⟨i,j,rfl,rfl,hc,q⟩:=h
 obtain⟨t,rfl⟩:=rx
 obtain⟨t',rfl⟩:=ry
 exact rule i j t t' s _ _ hc ⟨.int (g i j),H,I.tok _,⟨_,rfl⟩,q⟩
theorem opI0 {f:Value->Value->Sem Value}{g:Int->Int->Int}
  (rule:∀(i j:Int) (t u:Tok) (s:Shared) (Q:Value->Shared->Prop) (E:Value->Shared->Prop),Q (.int (g i j) s.toks) { s with toks:=s.toks+1 }->wpAny (model X.prog X.w) X.A (f (.int i t) (.int j u)) Q E s):
  OpR X f (rI0 fun i j=>.int (g i j)):=by
 intro pins s σ H x y v u Q I rx ry h
 obtain⟨i,j,rfl,rfl,q⟩:=h
 obtain⟨t,rfl⟩:=rx
 obtain⟨t',rfl⟩:=ry
 exact rule i j t t' s _ _ ⟨.int (g i j),H,I.tok _,⟨_,rfl⟩,q⟩
theorem opB0 {f:Value->Value->Sem Value}{g:Int->Int->Bool}
  (rule:∀(i j:Int) (t u:Tok) (s:Shared) (Q:Value->Shared->Prop) (E:Value->Shared->Prop),Q (.bool (g i j)) s->wpAny (model X.prog X.w) X.A (f (.int i t) (.int j u)) Q E s):
  OpR X f (rI0 fun i j=>.bl (g i j)):=by
 intro pins s σ H x y v u Q I rx ry h
 obtain⟨i,j,rfl,rfl,q⟩:=h
 obtain⟨t,rfl⟩:=rx
 obtain⟨t',rfl⟩:=ry
 exact rule i j t t' s _ _ ⟨.bl (g i j),H,I,rfl,q⟩
noncomputable def CPow (i j:Int):Prop:=0<=j/\j<=1000000/\i.natAbs<2 ^ 64
theorem zYu:OpR X (binaryOp .Add) (rI0 fun i j=>.int (i+j)):=opI0 fun _ _ _ _ _ _ _ q=>add_int q
theorem zYp:OpR X (binaryOp .Sub) (rI0 fun i j=>.int (i-j)):=opI0 fun _ _ _ _ _ _ _ q=>sub_int q
theorem zYs:OpR X (binaryOp .Mod) (rI (fun _ j=>0<j) fun i j=>.int (i % j)):=opI fun i j _ _ _ _ _ hc q=>by
 have h1:(0:Int)<j:=hc
 exact mod_int' (by nofun) (by rw[Int.fmod_eq_emod_of_nonneg i (by nofun)];exact q)
theorem zYq:OpR X (binaryOp .Pow) (rI CPow fun i j=>.int (i ^ j.toNat)):=opI fun _ _ _ _ _ _ _ hc q=>pow_int_small hc.1 hc.2.1 hc.2.2 q
theorem unI {f:Value->Sem Value}{g:Int->Int}
  (rule:∀(i:Int) (t:Tok) (s:Shared) (Q:Value->Shared->Prop) (E:Value->Shared->Prop),Q (.int (g i) s.toks) { s with toks:=s.toks+1 }->wpAny (model X.prog X.w) X.A (f (.int i t)) Q E s):
  UnR X f (rU fun i=>.int (g i)):=by
 intro pins s σ H x v Q I rx h
 obtain⟨i,rfl,q⟩:=h
 obtain⟨t,rfl⟩:=rx
 exact rule i t s _ _ ⟨.int (g i),H,I.tok _,⟨_,rfl⟩,q⟩
theorem zXe:UnR X (unaryOp .USub) (rU fun i=>.int (-i)):=unI fun _ _ _ _ _ q=>neg_int q
end
section
variable {X:Cx}{a b c:Expr}{ta tb tc:TE}{pos:Pos}
theorem yAm:OpR X (compareOp .Lt) (rI0 fun i j=>.bl (decide (i<j))):=opB0 fun _ _ _ _ _ _ _ q=>lt_int q
theorem yAn:OpR X (compareOp .LtE) (rI0 fun i j=>.bl (decide (i<=j))):=opB0 fun _ _ _ _ _ _ _ q=>le_int q
theorem yAo:OpR X (compareOp .Gt) (rI0 fun i j=>.bl (decide (j<i))):=opB0 fun _ _ _ _ _ _ _ q=>gt_int q
theorem yAp:OpR X (compareOp .GtE) (rI0 fun i j=>.bl (decide (j<=i))):=opB0 fun _ _ _ _ _ _ _ q=>ge_int q
theorem nomark (b:Expr) {op:CmpOp}(h:op≠.In:=by decide) (h2:op≠.NotIn:=by decide):behindInMarks op b=false:=by
 have e1:(op == CmpOp.In)=false:=by cases op <;> first|rfl|exact absurd rfl h
 have e2:(op == CmpOp.NotIn)=false:=by cases op <;> first|rfl|exact absurd rfl h2
 cases b <;> simp[behindInMarks,e1,e2]
theorem zVh {op:CmpOp}{r:R2}(ho:OpR X (compareOp op) r) (ha:PE X a ta) (hb:PE X b tb) (hm:behindInMarks op b=false):PE X (.Compare a [op] [b] pos) (tOp r ta tb):=by
 intro pins s σ H Q I h
 exact wpAny_Compare1 (binT ha hb I h fun v u s2 x y H2 I2 rx ry q=>ho pins s2 σ H2 x y v u Q I2 rx ry q) hm
noncomputable def zXg (t:TE):TT:=fun σ H Q=>t σ H fun x H'=>∃k,x=.bl k/\Q k H'
theorem zUy {op:CmpOp}{r:R2}(ho:OpR X (compareOp op) r) (ha:PE X a ta) (hb:PE X b tb) (hm:behindInMarks op b=false):PT X (.Compare a [op] [b] pos) (zXg (tOp r ta tb)):=by
 intro pins s σ H Q I h
 refine wpAny_isTrue_Compare1 (thn (ha pins s σ H _ I h) fun v s1 ⟨x,H1,I1,r1,q1⟩=>thn (hb pins s1 σ H1 _ I1 q1) fun u s2 ⟨y,H2,I2,r2,q2⟩=>
  thn (ho pins s2 σ H2 x y v u _ I2 r1 r2 q2) fun c s3 ⟨z,H3,I3,r3,k,e,q3⟩=>?_) hm
 subst e
 cases r3
 exact uF ⟨H3,I3,q3⟩
noncomputable def zNu (r r':R2) (ta tb tc:TE):TE:=fun σ H Q=>ta σ H fun x H1=>tb σ H1 fun y H2=>r x y H2 fun z H3=>∃k,z=.bl k /\
 (if k=true then tc σ H3 fun w' H4=>r' y w' H4 Q else Q (.bl false) H3)
theorem zRp {op op':CmpOp}{r r':R2}(ho:OpR X (compareOp op) r) (ho':OpR X (compareOp op') r') (ha:PE X a ta) (hb:PE X b tb) (hc:PE X c tc)
  (hm:lastMarks [op,op'] [b,c]=false:=by with_unfolding_all rfl):PE X (.Compare a [op,op'] [b,c] pos) (zNu r r' ta tb tc):=by
 intro pins s σ H Q I h
 refine Compare_chain (thn (ha pins s σ H _ I h) fun v s1 ⟨x,H1,I1,r1,q1⟩=>chain_link (thn (hb pins s1 σ H1 _ I1 q1) fun u s2 ⟨y,H2,I2,r2,q2⟩=>
  thn (ho pins s2 σ H2 x y v u _ I2 r1 r2 q2) fun d s3 ⟨z,H3,I3,r3,k,e,q3⟩=>?_)) hm
 subst e
 cases r3
 refine uF ?_
 cases k with
 | false=>exact ite_ff ⟨.bl false,H3,I3,rfl,q3⟩
 | true=>exact ite_tt (chain_last (thn (hc pins s3 σ H3 _ I3 q3) fun w' s4 hz4=>by obtain⟨z',H4,I4,r4,q4⟩:=hz4;exact ho' pins s4 σ H4 y z' u w' Q I4 r2 r4 q4))
noncomputable def TruV (K:PySem.W.Frag) (x:V) (H:Hp) (k:Bool):Prop:=
 match x with
 | .non=>k=false
 | .bl b=>k=b
 | .int i=>k=(i != 0)
 | .str y=>y.length<=sizeLine/\k=((y.length:Int) != 0)
 | .byt y=>y.size<=sizeLine/\k=((y.size:Int) != 0)
 | .ref p=>(∃xs,SqL K H p xs/\k=!xs.isEmpty)\/(∃xs,SqT K H p xs/\k=!xs.isEmpty)\/∃kvs,H p=some (.dK kvs)/\k=!kvs.isEmpty
 | _=>False
theorem zN3 {κ:Type}{kvs:List (κ × V)}{vs:List (κ × Value)}(r:KV kvs vs):(!vs.isEmpty)=!kvs.isEmpty:=by
 cases r <;> rfl
theorem zHf {xs:List V}{its:List Value}(r:Vals xs its):(!its.toArray.isEmpty)=!xs.isEmpty:=by
 cases r <;> simp
theorem line63:(sizeLine:Nat)<2 ^ 63:=by rw[vW];decide
theorem zT4:TruR X (fun x H Q=>∃k,TruV X.K x H k/\Q k H):=by
 intro pins s σ H x v Q I rx h
 obtain⟨k,e,q⟩:=h
 have hl:=line63
 have hs:sizeLine=16777216:=vW
 cases x with
 | non=>
  cases rx
  have e':k=false:=e
  subst e'
  exact truthy_none ⟨H,I,q⟩
 | bl b=>
  cases rx
  have e':k=b:=e
  subst e'
  exact uF ⟨H,I,q⟩
 | int i=>
  obtain⟨t,rfl⟩:=rx
  have e':k=(i != 0):=e
  subst e'
  exact PySem.P.truthy_int ⟨H,I,q⟩
 | str y=>
  obtain⟨t,rfl⟩:=rx
  obtain⟨hy,e'⟩:y.length<=sizeLine/\k=((y.length:Int) != 0):=e
  subst e'
  exact PySem.P.truthy_str (by nofun) ⟨H,I.tok _,q⟩
 | byt y=>
  obtain⟨t,rfl⟩:=rx
  obtain⟨hy,e'⟩:y.size<=sizeLine/\k=((y.size:Int) != 0):=e
  subst e'
  exact PySem.W.truthy_bytes (by nofun) ⟨H,I.tok _,q⟩
 | ref p=>
  cases rx
  have e':(∃xs,SqL X.K H p xs/\k=!xs.isEmpty)\/(∃xs,SqT X.K H p xs/\k=!xs.isEmpty)\/∃kvs,H p=some (.dK kvs)/\k=!kvs.isEmpty:=e
  rcases e' with⟨xs,hx,e'⟩|⟨xs,hx,e'⟩|⟨kvs,hx,e'⟩
  ·subst e'
   obtain⟨its,r,pl,hz⟩:=I.list hx
   have hlen:=r.length
   exact wpAny_truthy_list pl.isList (by simp only[xv];lia) ⟨H,I.tok _,by rw[zHf r];exact q⟩
  ·subst e'
   obtain⟨its,r,pl,hz⟩:=I.tuple hx
   have hlen:=r.length
   exact truthy_tuple pl (by simp only[xv];lia) ⟨H,I.tok _,by rw[zHf r];exact q⟩
  ·subst e'
   obtain⟨hz,hS,vs,r,m⟩:kvs.length<=sizeLine/\(p == sysModules)=false/\∃vs,KV kvs vs/\s.heap.DictOf (zBg X.prog X.w) p vs:=I.hok p _ hx
   have hlen:kvs.length=vs.length:=Paired.length r
   exact wpAny_truthy_dict hS m (by nofun) ⟨H,I.tok _,by rw[zN3 r];exact q⟩
 | _=>exact(show False from e).elim
theorem zR4 (ha:PE X a ta) (he:∀whole,isTrue a X.env whole=(do let v <- whole;standAt a.pos;holding [v] (truthy v))):
  PT X a (fun σ H Q=>ta σ H fun x H'=>∃k,TruV X.K x H' k/\Q k H'):=by
 intro pins s σ H Q I h
 exact isTrue_plain (thn (ha pins s σ H _ I h) fun v s1 hz5=>by obtain⟨x,H1,I1,r1,q1⟩:=hz5;exact zT4 pins s1 σ H1 x v Q I1 r1 q1) (he _)
theorem zMq:OpR X (binaryOp .Add) (fun x y H Q=>∃i j,x=.str i/\y=.str j/\i.length+j.length<=sizeLine/\Q (.str (i++j)) H):=by
 intro pins s σ H x y v u Q I rx ry h
 obtain⟨i,j,rfl,rfl,hz,q⟩:=h
 obtain⟨t,rfl⟩:=rx
 obtain⟨t',rfl⟩:=ry
 exact add_str (fun t' tk=>⟨.str (i++j),H,I.tok _,⟨_,rfl⟩,q⟩) hz
theorem vals1 {x:V}{us:List Value}(r:Vals [x] us):∃u,us=[u]/\RelV x u:=by
 cases r with
 | cons r1 r2=>cases r2;exact⟨_,rfl,r1⟩
theorem vals2 {x y:V}{us:List Value}(r:Vals [x,y] us):∃u w',us=[u,w']/\RelV x u/\RelV y w':=by
 cases r with
 | cons r1 r2=>
  cases r2 with
  | cons r3 r4=>cases r4;exact⟨_,_,rfl,r1,r3⟩
theorem zSw:zCb X (.builtin "abs") (fun xs H Q=>∃i,xs=[.int i]/\Q (.int (if i<0 then -i else i)) H):=by
 intro pins s σ H xs us Q I r h
 obtain⟨i,rfl,q⟩:=h
 obtain⟨u,rfl,t,rfl⟩:=vals1 r
 exact call_abs_int fun u tk=>⟨.int (if i<0 then -i else i),H,I.tok _,⟨_,rfl⟩,q⟩
theorem zQg (hc:X.calm=true):zCb X (.builtin "max") (fun xs H Q=>∃i j,xs=[.int i,.int j]/\Q (.int (if j > i then j else i)) H):=by
 intro pins s σ H xs us Q I r h
 obtain⟨i,j,rfl,q⟩:=h
 obtain⟨u,w',rfl,⟨t,rfl⟩,⟨t',rfl⟩⟩:=vals2 r
 refine max_two_ints (I.ok.hd hc) fun h' tk k=>⟨_,H,I.kept k,?_,q⟩
 by_cases hj:j > i
 ·rw[xc hj,xc hj];exact⟨_,rfl⟩
 ·rw[xf hj,xf hj];exact⟨_,rfl⟩
end
end L2
namespace L2
open PySem PySem.Spec PyProof.Rows
structure ObjM (h:Heap) (x dx C:Addr) (mA:Str->Option Value):Prop where
 obj:h.get? x=some (PySem.W.instObj C dx)
 ns:h.Ns1 dx mA
 ne:dx≠x
theorem RelO.some_of {v:V}{o:Option Value}(r:RelO (some v) o):∃u,o=some u/\RelV v u:=by
 cases o with
 | none=>exact(show False from r).elim
 | some u=>exact⟨u,rfl,r⟩
structure Cls (K:PySem.W.Frag) (C:Addr):Prop where
 pg:PySem.W.plainGet K C Str.empty=true
 hd:PySem.W.hasDictIn K C=true
 po:PySem.W.plainOver K C=true
 sa:PySem.W.findIn K (.ref C) "__setattr__"=some (some (.builtin "object.__setattr__"))
structure Con (K:PySem.W.Frag) (C:Addr) (f:Str) (v:V) (u:Value):Prop where
 at_:PySem.W.findIn K (.ref C) f=some (some u)
 rel:RelV v u
 get:PySem.W.specialIn K u "__get__"=some none
 cp:PySem.W.copiedNames.contains f=false
section
variable {X:Cx}{pins:List (Addr × Obj)}{σ:St}{H:Hp}{s:Shared}{a C dx:Addr}{fs:List (Str × V)}{f:Str}{v:V}{A:Around}{E:Value->Shared->Prop}
theorem Inv.made (I:Inv X pins σ H s):Inv X pins σ (upd (upd H s.heap.objs.size (.own (s.heap.objs.size+1))) (s.heap.objs.size+1) (.ins C s.heap.objs.size []))
  { s with heap:=(s.heap.push PySem.W.emptyDict).push (PySem.W.instObj C s.heap.objs.size) }:=by
 have e1:(s.heap.push PySem.W.emptyDict).get? s.heap.objs.size=some PySem.W.emptyDict:=xu s.heap rfl
 have e2:((s.heap.push PySem.W.emptyDict).push (PySem.W.instObj C s.heap.objs.size)).get? (s.heap.objs.size+1)=some (PySem.W.instObj C s.heap.objs.size):=by
  have:=xu (s.heap.push PySem.W.emptyDict) (o:=PySem.W.instObj C s.heap.objs.size) rfl
  rwa[ve]at this
 have e3:(s.heap.push PySem.W.emptyDict).Ns s.heap.objs.size (fun _=>none):=⟨PySem.W.emptyDict,#[],_,e1,rfl,(fun e he=>absurd he (by simp)),fun _=>rfl⟩
 have I1:=I.laid (a:=s.heap.objs.size) (o:=.own (s.heap.objs.size+1)) (h':=s.heap.push PySem.W.emptyDict) (t':=s.toks) (fun b u q=>xj _ q) (xh _) ⟨_,e1⟩
 refine I1.laid (a:=s.heap.objs.size+1) (o:=.ins C s.heap.objs.size []) (t':=s.toks) (fun b u q=>xj _ q) (Nat.le_of_eq (ve _ _)) ?_
 have ne:s.heap.objs.size≠s.heap.objs.size+1:=xq (Nat.lt_succ_self _)
 refine⟨by rw[zAm ne,zAu],vf _,ne,e2,fun _=>none,(Heap.Ns1.of_empty e3).at fun o q=>xj _ q,fun _=>True.intro,fun y hy=>absurd rfl hy⟩
end
section
variable {X:Cx}{pins:List (Addr × Obj)}{σ:St}{H:Hp}{s:Shared}{A:Around}{E:Value->Shared->Prop}{Q:Value->Shared->Prop}{c:Value}{b:Bool}
inductive TyOf (K:PySem.W.Frag) (H:Hp):V->Value->Prop where
 | non:TyOf K H .non (.type "NoneType")
 | bl (x:Bool):TyOf K H (.bl x) (.type "bool")
 | int (i:Int):TyOf K H (.int i) (.type "int")
 | str (x:Str):TyOf K H (.str x) (.type "str")
 | flt (x:UInt64):TyOf K H (.flt x) (.type "float")
 | lst {a:Addr}{xs:List V}(e:H a=some (.lst xs)):TyOf K H (.ref a) (.type "list")
 | frz {a:Addr}{o:Obj}{xs:List V}(e:H a=some (.frz o (.lst xs))):TyOf K H (.ref a) (.type "list")
 | tup {a:Addr}{xs:List V}(e:H a=some (.tup xs)):TyOf K H (.ref a) (.type "tuple")
 | dK {a:Addr}{kvs:List (Key × V)}(e:H a=some (.dK kvs)):TyOf K H (.ref a) (.type "dict")
 | dT {a:Addr}{kvs:List (List Key × V)}(e:H a=some (.dT kvs)):TyOf K H (.ref a) (.type "dict")
 | ins {a C dx:Addr}{fs:List (Str × V)}(e:H a=some (.ins C dx fs)) (cl:Cls K C) (ha:PySem.W.findIn K (.ref C) "__class__"=some (some (.builtin "object.__class__")))
   (hn:PySem.W.specialIn K (.builtin "object.__class__") "__get__"=some (some (.builtin "getset_descriptor.__get__"))) (htk:PySem.W.takesIn K (.builtin "object.__class__")=some true)
   (hm:PySem.W.mroIn K C (.type "object")=some true):TyOf K H (.ref a) (.ref C)
end
end L2
namespace L2
open PySem PySem.Spec PyProof.Rows
structure Room (k:Nat) (A:Around):Prop where
 hd:A.handled=none
 dp:A.depth+3*k+5<recursionLimit
 un:A.units+16*k+200<cLine
theorem Room.mono {j k:Nat}{A:Around}(r:Room k A) (h:j<=k):Room j A:=⟨r.hd,by have:=r.dp;lia,by have:=r.un;lia⟩
theorem Room.deeper {k:Nat}{A:Around}(r:Room (k+1) A) (env:Env):Room k (A.deeper env):=
 ⟨r.hd,by have:=r.dp;show A.depth+1+3*k+5<_;lia,by have:=r.un;show A.units+3+16*k+200<_;lia⟩
theorem Room.in1 {k:Nat}{A:Around}(r:Room (k+1) A):Room k A.in1:=
 ⟨r.hd,by have:=r.dp;show A.depth+3*k+5<_;lia,by have:=r.un;show A.units+1+16*k+200<_;lia⟩
theorem Room.depth {k:Nat}{A:Around}(r:Room k A):A.depth<recursionLimit:=by have:=r.dp;lia
theorem Room.units {k:Nat}{A:Around}(r:Room k A):A.units+64<cLine:=by have:=r.un;lia
theorem Room.units0 {k:Nat}{A:Around}(r:Room k A):A.units<cLine:=by have:=r.un;lia
noncomputable def tNil:TA:=fun _ H Q=>Q [] H
noncomputable def zUb (ta:TE) (tr:TA):TA:=fun σ H Q=>ta σ H fun x H1=>tr σ H1 fun xs H2=>Q (x::xs) H2
section
variable {X:Cx}{e:Expr}{es:List Expr}{te:TE}{t:TA}{pos:Pos}
theorem zYo:PA X [] tNil:=fun _ _ _ _ H Q I h=>uH ⟨[],H,I,.nil,h⟩
theorem zVl (ha:PE X e te) (hr:PA X es t) (hs:starEach (e::es) X.env=(false,eval e X.env)::starEach es X.env:=by rfl):PA X (e::es) (zUb te t):=by
 intro pos pins s σ H Q I h
 rw[hs]
 show wpAny _ _ (spliced ((false,eval e X.env)::backTo pos (starEach es X.env))) _ _ s
 refine uI (thn (ha pins s σ H _ I h) fun u s1 hq1=>?_)
 obtain⟨x,H1,I1,r1,q1⟩:=hq1
 exact thn (hr pos pins s1 σ H1 _ I1 q1) fun us s2 hz6=>by obtain⟨xs,H2,I2,r2,q2⟩:=hz6;exact ⟨x::xs,H2,I2,.cons r1 r2,q2⟩
noncomputable def tTup (t:TA):TE:=fun σ H Q=>t σ H fun xs H1=>xs.length<=sizeLine/\∀p,H1 p=none->Q (.ref p) (upd H1 p (.tup xs))
noncomputable def tLst (t:TA):TE:=fun σ H Q=>t σ H fun xs H1=>xs.length<=sizeLine/\∀p,H1 p=none->Q (.ref p) (upd H1 p (.lst xs))
theorem zYb {x1} (h:PA X es t):PE X (.Tuple es x1 pos) (tTup t):=by
 intro pins s σ H Q I hq
 refine wpAny_Tuple_spliced (thn (h pos pins s σ H _ I hq) fun us s1 ⟨xs,H1,I1,r,z,q⟩=>⟨by rw[<- r.length];exact z,?_⟩)
 have hf:H1 s1.heap.objs.size=none:=I1.hok.fresh (xh _)
 refine⟨.ref s1.heap.objs.size,upd H1 s1.heap.objs.size (.tup xs),I1.laid (t':=s1.toks) (fun b u e=>xj _ e) (xh _) ?_,rfl,q _ hf⟩
 exact⟨z,us,r,⟨_,xu _ rfl,rfl,_,rfl⟩⟩
theorem zYg (h:PA X es t):PE X (.List es pos) (tLst t):=by
 intro pins s σ H Q I hq
 refine wpAny_List_spliced (thn (h pos pins s σ H _ I hq) fun us s1 ⟨xs,H1,I1,r,z,q⟩=>⟨by rw[<- r.length];exact z,?_⟩)
 have hf:H1 s1.heap.objs.size=none:=I1.hok.fresh (xh _)
 refine⟨.ref s1.heap.objs.size,upd H1 s1.heap.objs.size (.lst xs),I1.laid (t':=s1.toks) (fun b u e=>xj _ e) (xh _) ?_,rfl,q _ hf⟩
 exact⟨z,us,0,r,xu _ rfl⟩
end
noncomputable abbrev Sp:=List V->Hp->VK->XK->Prop
noncomputable abbrev CXT:=List Env->Hp->Shared->XK->Value->Shared->Prop
structure Env0 (P:Program) (w:World) (K:PySem.W.Frag) (mg:Str->Option Value) (base:Heap) (A:Around) (outer:List Env) (s:Shared) (H:Hp):Prop where
 frames:A.frames=some outer
 mod:Mod K mg base
 bs:∀b o,base.get? b=some o->s.heap.get? b=some o/\H b=none
 bsz:base.objs.size<=s.heap.objs.size
 funs:s.heap.FunFrames base outer
 frf:∀b∈frs outer,H b=none
 hok:HOk P w H s.heap
 bare:AllBare s.gens
noncomputable def CE (outer:List Env) (P:Program) (w:World) (H:Hp) (s:Shared) (Q:VK) (u:Value) (s':Shared):Prop:=
 ∃v H',s'.os=s.os/\AllBare s'.gens/\Un (frs outer) [] H H' s.heap s'.heap/\HOk P w H' s'.heap/\RelV v u/\Q v H'
noncomputable def CR (CX:CXT) (outer:List Env) (P:Program) (w:World) (H:Hp) (s:Shared) (Q:VK) (E:XK) (r:Result) (s':Shared):Prop:=
 match r with
 | .ok (.ret u)=>CE outer P w H s Q u s'
 | .ok _=>False
 | .error e=>CX outer H s E e s'
structure FnOk (P:Program) (w:World) (K:PySem.W.Frag) (mg:Str->Option Value) (base:Heap) (CX:CXT) (k:Nat) (f:Addr) (fd:FuncData) (ps:List Str) (sp:Sp):Prop where
 len:∀vs H Q E,sp vs H Q E->vs.length=ps.length
 run:∀(A:Around) (outer:List Env) (s:Shared) (H:Hp) (args:Args) (us:List Value) (vs:List V) (Q:VK) (E:XK),Room k A->Env0 P w K mg base A outer s H->BindsTo s fd args (ps.zip us)->Vals vs us->sp vs H Q E->
  codeAny (model P w) A (.call (.ref f) args) (CR CX outer P w H s Q E) s
theorem Env0.in1 {P:Program}{w:World}{K:PySem.W.Frag}{mg:Str->Option Value}{base:Heap}{A:Around}{outer:List Env}{s:Shared}{H:Hp}(e:Env0 P w K mg base A outer s H):
  Env0 P w K mg base A.in1 outer s H:=⟨e.frames,e.mod,e.bs,e.bsz,e.funs,e.frf,e.hok,e.bare⟩
section
variable {X:Cx}{pins:List (Addr × Obj)}{σ:St}{H:Hp}{s s':Shared}
theorem Inv.env0 (I:Inv X pins σ H s):Env0 X.prog X.w X.K X.mg X.base X.A X.stack s H:=
 ⟨I.ok.frames,I.ok.mod,I.bs,xH I.ok.bsz I.sz,I.stack,I.stkFree,I.hok,I.bare⟩
theorem Inv.after {Q:VK}{u:Value}(I:Inv X pins σ H s) (h:CE X.stack X.prog X.w H s Q u s'):EP X pins σ Q u s':=by
 obtain⟨v,H',os,bare,un,hok,r,q⟩:=h
 obtain⟨hh,g,d,t,os'⟩:=s'
 obtain rfl:os'=s.os:=os
 exact⟨v,H',I.call (h':=hh) (g':=g) (d':=d) (t':=t) (ch:=[]) un hok bare (fun b z=>absurd z (by simp)),r,q⟩
end
noncomputable def zQw (sp:Sp) (dvs:List V) (E:XK) (t:TA):TE:=fun σ H Q=>t σ H fun vs H1=>sp (vs++dvs) H1 Q E
noncomputable def Binds (K:PySem.W.Frag) (fd:FuncData) (ps:List Str) (ds:List Value):Prop:=
 ∀(s:Shared) (us:List Value),K.In s.heap->(us++ds).length=ps.length->BindsTo s fd ⟨us,[]⟩ (ps.zip (us++ds))
theorem Binds.all {K:PySem.W.Frag}{fd:FuncData}{ps:List Str}(h:∀us:List Value,us.length=ps.length->bindArgs fd ⟨us,[]⟩=pure (ps.zip us)):Binds K fd ps []:=fun s us _ hl=>by
 rw[List.append_nil]at hl ⊢
 exact .of_eq (h us hl)
noncomputable def Passes (CX:CXT) (X:Cx) (E:XK):Prop:=∀(pins:List (Addr × Obj)) (σ:St) (H:Hp) (s:Shared) (e:Value) (s':Shared),Inv X pins σ H s->CX X.stack H s E e s'->X.xe e s'
section
variable {X:Cx}{CX:CXT}{k:Nat}{f C:Addr}{fd:FuncData}{ps:List Str}{sp:Sp}{dvs:List V}{ds:List Value}{E:XK}{x m:Str}{p pos apos:Pos}{e o:Expr}{es:List Expr}{ta:TE}{t:TA}
theorem zXr {pins:List (Addr × Obj)}{σ:St}{H:Hp}{s:Shared}{Q:VK}{us:List Value}{vs:List V}(F:FnOk X.prog X.w X.K X.mg X.base CX k f fd ps sp) (hr:Room k X.A) (hb:Binds X.K fd ps ds) (hd:Vals dvs ds) (hx:Passes CX X E)
  (I:Inv X pins σ H s) (r:Vals vs us) (h:sp (vs++dvs) H Q E):wpAny (model X.prog X.w) X.A (call (.ref f) us) (EP X pins σ Q) X.xe s:=by
 have r2:Vals (vs++dvs) (us++ds):=r.append hd
 have hl:(us++ds).length=ps.length:=by rw[<- r2.length];exact F.len _ _ _ _ h
 refine wpAny_call (codeAny_mono (F.run X.A X.stack s H ⟨us,[]⟩ (us++ds) (vs++dvs) Q E hr I.env0 (hb s us I.kIn hl) r2 h) fun r s' hq=>?_)
 cases r with
 | error e=>exact hx pins σ H s e s' I hq
 | ok fl=>
  cases fl with
  | ret u=>exact I.after hq
  | next=>exact False.elim hq
  | brk=>exact False.elim hq
  | cont=>exact False.elim hq
theorem zVi (F:FnOk X.prog X.w X.K X.mg X.base CX k f fd ps sp) (hr:Room k X.A) (hg:Gl X x) (hm:X.mg x=some (.ref f)) (hk:PySem.W.keepIn X.K (.ref f)=true) (hb:Binds X.K fd ps ds) (hd:Vals dvs ds) (hx:Passes CX X E)
  (ha:PA X (e::es) t) (hdb:(x == ("__debug__":Str))=false:=by decide) (he:starEach (e::es) X.env=(false,eval e X.env)::starEach es X.env:=by rfl) (hpl:(backTo pos (starEach es X.env)).any (·.1)=false:=by rfl):
  PE X (.Call (.Name x p) (e::es) [] pos) (zQw sp dvs E t):=by
 intro pins s σ H Q I h
 refine ua (zPh I hg hm ?_ hdb)
 refine PySem.W.callWith_K (h₀:=X.base) I.ok.mod.kin hk (thn (ha pos pins s σ H _ I h) fun us s1 ⟨vs,H1,I1,r,q⟩=>⟨I1.kIn,?_⟩) he hpl
 exact zXr F hr hb hd hx I1 r q
structure Mk (K:PySem.W.Frag) (C f:Addr):Prop where
 makes:PySem.W.makesIn K C=true
 init:PySem.W.findIn K (.ref C) "__init__"=some (some (.ref f))
 fn:PySem.W.isFn K (.ref f)=true
 kp:PySem.W.keepIn K (.ref C)=true
end
section
variable {X:Cx}{CX:CXT}{k:Nat}{f C:Addr}{fd:FuncData}{ps ks:List Str}{sp:Sp}{E:XK}{x m:Str}{p pos apos kpos:Pos}{e o:Expr}{es:List Expr}{kws:List Keyword}{te ta:TE}{t tk:TA}{nm:Option Str}
structure KBinds (K:PySem.W.Frag) (fd:FuncData) (ps ks:List Str) (g:List Value->List Value->List Value) (gV:List V->List V->List V):Prop where
 to:∀(s:Shared) (us ws:List Value),K.In s.heap->(g us ws).length=ps.length->BindsTo s fd ⟨us,ks.zip ws⟩ (ps.zip (g us ws))
 rel:∀{vs:List V}{us:List Value}{zs:List V}{ws:List Value},Vals vs us->Vals zs ws->Vals (gV vs zs) (g us ws)
variable {g:List Value->List Value->List Value}{gV:List V->List V->List V}
end
structure zAk (N P:List Str) (sc:Scope):Prop where
 kind:sc.kind=.function
 co:sc.isCoroutine=false
 gen:sc.isGenerator=false
 nd:N.Nodup
 pre:N.take P.length=P
 par:∀x∈P,sc.names.lookup x=some .local\/sc.names.lookup x=some .cell
 nofree:∀y∈sc.names,y.2≠.free
theorem zJl {kindOf:Str->Option NameKind}{x:Str}:∀{binds:List (Str × Value)}{m:Str->Option Value},(∀v,(x,v) ∉ binds)->bindL kindOf binds m x=m x
 | [],_,_=>rfl
 | (n,v)::r,m,h=>by
  unfold bindL
  rw[zJl fun w hw=>h w (xW _ hw)]
  split
  ·have:x≠n:=by rintro rfl;exact h v xS
   simp[this]
  ·rfl
theorem zJn {kindOf:Str->Option NameKind}{x:Str}:∀{binds:List (Str × Value)}{m:Str->Option Value},(∀v,(x,v) ∉ binds)->bindC kindOf binds m x=m x
 | [],_,_=>rfl
 | (n,v)::r,m,h=>by
  unfold bindC
  rw[zJn fun w hw=>h w (xW _ hw)]
  split
  ·rfl
  ·have:x≠n:=by rintro rfl;exact h v xS
   simp[this]
theorem zJm {kindOf:Str->Option NameKind}{x:Str}{v:Value}:∀{P:List Str}{vs:List Value}{i:Nat}{m:Str->Option Value},P.Nodup->P[i]?=some x->vs[i]?=some v->kindOf x=some .local->
  bindL kindOf (P.zip vs) m x=some v
 | [],_,_,_,_,h,_,_=>by simp at h
 | _::_,[],_,_,_,_,h,_=>by simp at h
 | p::P,w::vs,0,m,nd,h1,h2,hk=>by
  simp at h1 h2;subst h1;subst h2
  show bindL kindOf ((p,w)::P.zip vs) m p=_
  unfold bindL
  rw[zJl fun v hv=>(vX.mp nd).1 (List.of_mem_zip hv).1,xc hk]
  simp
 | p::P,w::vs,i+1,m,nd,h1,h2,hk=>by
  show bindL kindOf ((p,w)::P.zip vs) m x=_
  unfold bindL
  exact zJm (i:=i) (vX.mp nd).2 (by simpa using h1) (by simpa using h2) hk
theorem zJo {kindOf:Str->Option NameKind}{x:Str}{v:Value}:∀{P:List Str}{vs:List Value}{i:Nat}{m:Str->Option Value},P.Nodup->P[i]?=some x->vs[i]?=some v->kindOf x≠some .local->
  bindC kindOf (P.zip vs) m x=some v
 | [],_,_,_,_,h,_,_=>by simp at h
 | _::_,[],_,_,_,_,h,_=>by simp at h
 | p::P,w::vs,0,m,nd,h1,h2,hk=>by
  simp at h1 h2;subst h1;subst h2
  show bindC kindOf ((p,w)::P.zip vs) m p=_
  unfold bindC
  rw[zJn fun v hv=>(vX.mp nd).1 (List.of_mem_zip hv).1,xf hk]
  simp
 | p::P,w::vs,i+1,m,nd,h1,h2,hk=>by
  show bindC kindOf ((p,w)::P.zip vs) m x=_
  unfold bindC
  exact zJo (i:=i) (vX.mp nd).2 (by simpa using h1) (by simpa using h2) hk
noncomputable def start (N:List Str) (vs:List V):St:=vs.map some++List.replicate (N.length-vs.length) none
noncomputable def cxOf (CX:CXT) (P:Program) (w:World) (K:PySem.W.Frag) (mg:Str->Option Value) (base:Heap) (N:List Str) (qual:Str) (scope:Scope) (f:Addr) (cd:Value) (A:Around) (outer:List Env) (s:Shared) (H:Hp) (E:XK):Cx where
 prog:=P
 w:=w
 K:=K
 mg:=mg
 base:=base
 A:=A.deeper (envOfC qual scope s.heap.objs.size f cd)
 N:=N
 s₀:=s
 H₀:=H
 env:=envOfC qual scope s.heap.objs.size f cd
 outer:=outer
 stack:=envOfC qual scope s.heap.objs.size f cd::outer
 ex:=[]
 calm:=true
 fn:=fun _=>true
 pn:=[]
 xe:=fun e s'=>wpAny (model P w) (A.deeper (envOfC qual scope s.heap.objs.size f cd)) (leaving (envOfC qual scope s.heap.objs.size f cd) e) (fun _ s''=>CX outer H s E e s'') (fun e' s''=>CX outer H s E e' s'') s'
theorem zM9 {sc:Scope}{n:Nat}{x:Str}(h:sc.names.lookup x=some .cell):∃c,(cellsFrom n sc.names []).lookup x=some c:=by
 have q:=PySem.W.cellsFrom_some sc.names n [] (.inl h)
 exact Option.isSome_iff_exists.mp q
theorem zPs {CX:CXT}{P:Program}{w:World}{K:PySem.W.Frag}{mg:Str->Option Value}{base:Heap}{N ps:List Str}{qual:Str}{scope:Scope}{f:Addr}{cd:Value}{A:Around}{outer:List Env}{s s1:Shared}{H:Hp}{E:XK}{us:List Value}{vs:List V}
  (S:zAk N ps scope) (hd:A.handled=none) (e0:Env0 P w K mg base A outer s H) (hl:vs.length=ps.length) (r:Vals vs us)
  (x:InCallC s s.heap.objs.size (bindL (envOfC qual scope s.heap.objs.size f cd).kindOf (ps.zip us) fun _=>none) (cellsFrom (s.heap.objs.size+1) scope.names []) (bindC (envOfC qual scope s.heap.objs.size f cd).kindOf (ps.zip us) fun _=>none) s1):
  Inv (cxOf CX P w K mg base N qual scope f cd A outer s H E) [] (start N vs) H s1:=by
 have hpl:ps.length<=N.length:=by have:=congrArg List.length S.pre;rw[vH]at this;lia
 obtain⟨h1,tk,rfl,hk⟩:=x.done
 have noA:∀b:Addr,b ∉ (cxOf CX P w K mg base N qual scope f cd A outer s H E).ex:=fun b z=>absurd (show b∈([]:List Addr)from z) (by simp)
 refine⟨⟨e0.mod,S.kind,rfl,rfl,xh _,fun y z c h1 h2=>?_,fun y hy=>?_,fun y c _ h=>?_,fun _=>hd,Around.frames_deeper e0.frames,.inr ⟨rfl,rfl⟩,fun b z=>absurd z (noA b),e0.bs,e0.bsz,fun b _ _=>noA b,fun b z=>absurd z (noA b),e0.funs,e0.frf⟩,
  rfl,e0.bare,Un.kept hk,⟨_,x.toInCall.ns,fun i y v h1 h2 h3=>?_⟩,fun y c h=>⟨_,x.cell y c h⟩,e0.hok.fresh (xh _),fun y c h=>?_,fun p hp=>absurd (show p∈([]:List (Addr × Obj))from hp) (by simp),e0.hok.kept hk,?_⟩
 ·exact name_of_addr x.apart (uJ h1) (uJ h2)
 ·have hy:scope.names.lookup y=some .cell\/scope.names.lookup y=some .free:=hy
  rcases hy with hy|hy
  ·exact zM9 hy
  ·exact absurd rfl (S.nofree _ (uJ hy))
 ·exact vb (x.above y c (uJ h))
 ·have hi:i<vs.length:=by
   unfold start at h2
   by_cases hi:i<vs.length
   ·exact hi
   ·rw[vq (by simpa using hi)]at h2
    rw[List.getElem?_replicate]at h2
    split at h2 <;> cases h2
  have ha:vs[i]?=some v:=by
   unfold start at h2
   rw[xX (by simpa using hi),xK]at h2
   cases e:vs[i]? with
   | none=>rw[e]at h2;cases h2
   | some a=>rw[e]at h2;cases h2;rfl
  obtain⟨u,hu,rv⟩:=r.get ha
  have hp:ps[i]?=some y:=by
   rw[<- S.pre,ub (by nofun)];exact h1
  have ndP:ps.Nodup:=by rw[<- S.pre];exact S.nd.sublist (List.take_sublist _ _)
  refine⟨u,rv,?_⟩
  rcases S.par y (xU hp)with k|k
  ·exact .inl ⟨k,zJm ndP hp hu k⟩
  ·obtain⟨c,e⟩:=zM9 (n:=s.heap.objs.size+1) k
   refine .inr ⟨.inl k,c,e,?_⟩
   have q:=x.cell y c e
   rw[zJo ndP hp hu (by show scope.names.lookup y≠_;rw[k];decide)]at q
   exact q
 ·exact e0.hok.fresh (vb (x.above y c (uJ h)))
 ·unfold start
  show _=N.length
  rw[vD,xn,List.length_replicate]
  lia
theorem yAu {CX:CXT}{P:Program}{w:World}{K:PySem.W.Frag}{mg:Str->Option Value}{base:Heap}{k:Nat}{f:Addr}{name qual:Str}{params:Arguments}{body:List Stmt}{scope:Scope}{dV kV doc pm cdv ct oc:Value}{an od:Option Addr}
  {osl:Array (Option Value)}{N ps:List Str}{sp:Sp}(lk:K.lookup f=some ⟨oc,od,.func (PySem.W.fnOf name qual params body scope dV kV doc pm an cdv ct),osl⟩) (hcd:PySem.W.codeIn K cdv qual=true) (S:zAk N ps scope)
  (len:∀vs H Q E,sp vs H Q E->vs.length=ps.length)
  (hbody:∀(A:Around) (outer:List Env) (s:Shared) (H:Hp) (vs:List V) (Q:VK) (E:XK),Room k (A.deeper (envOfC qual scope s.heap.objs.size f cdv))->sp vs H Q E->
   ∃t,PSs (cxOf CX P w K mg base N qual scope f cdv A outer s H E) body t/\t { nx:=fun _ H'=>Q .non H',rt:=Q } (start N vs) H):
  FnOk P w K mg base CX (k+1) f (PySem.W.fnOf name qual params body scope dV kV doc pm an cdv ct) ps sp:=by
 refine⟨len,fun A outer s H args us vs Q E hr e0 hb r hsp=>?_⟩
 have hl:=len _ _ _ _ hsp
 have KX:K.In s.heap:=e0.mod.kin.keeps fun b o e=>(e0.bs b o e).1
 have lim:s.heap.NoLimit:=e0.mod.nolimit.keeps fun b o e=>(e0.bs b o e).1
 have hkind:∀y∈ps.zip us,scope.names.lookup y.1=some .local\/(scope.names.lookup y.1=some .cell/\((cellsFrom (s.heap.objs.size+1) scope.names []).lookup y.1).isSome=true):=fun⟨n,v⟩ hy=>by
  rcases S.par n (List.of_mem_zip hy).1 with q|q
  ·exact .inl q
  ·exact .inr ⟨q,PySem.W.cellsFrom_some _ _ _ (.inl q)⟩
 refine codeAny_call_function hr.depth (KX _ _ lk) rfl S.co S.gen rfl (PySem.W.codeRec_of KX hcd) (hb _ _ _ _ ?_)
 refine wpAny_newFunctionEnv_cells S.kind hkind fun env he s1 x=>?_
 subst he
 refine⟨lim.keeps x.toInCall.keep,codeAny_func ?_⟩
 obtain⟨t,ht,hq⟩:=hbody A outer s H vs Q E (hr.deeper _) hsp
 have I:Inv (cxOf CX P w K mg base N qual scope f cdv A outer s H E) [] (start N vs) H s1:=zPs S hr.hd e0 hl r x
 refine vB (ht [] s1 (start N vs) H _ I hq) (fun fl s' hs=>?_) fun e s' hs=>hs
 have fin:∀{σ':St}{H':Hp}{v:V}{u:Value},Inv (cxOf CX P w K mg base N qual scope f cdv A outer s H E) [] σ' H' s'->RelV v u->Q v H'->CE outer P w H s Q u s':=
  fun {σ' H' v u} J rv q=>⟨v,H',J.os,J.bare,J.base,J.hok,rv,q⟩
 cases fl with
 | ret u=>
  obtain⟨v,σ',H',J,rv,q⟩:=hs
  exact fin J rv q
 | next=>
  obtain⟨σ',H',J,q⟩:=hs
  exact fin (v:=V.non) (u:=Value.none) J rfl q
 | brk=>
  obtain⟨_,_,_,q⟩:=hs
  exact False.elim q
 | cont=>
  obtain⟨_,_,_,q⟩:=hs
  exact False.elim q
end L2
namespace L2
open PySem PySem.Spec PyProof.Rows
section
variable {X:Cx}{x:Str}{p pos:Pos}{e:Expr}{es:List Expr}{t:TA}{id T:String}{r:List V->Hp->VK->Prop}
noncomputable def tCB (r:List V->Hp->VK->Prop) (t:TA):TE:=fun σ H Q=>t σ H fun vs H1=>r vs H1 Q
theorem zRq (hc:zCb X (.builtin id) r) (hg:Gl X x) (hm:X.mg x=none) (hv:bootBuiltins x=some (.builtin id)) (ha:PA X (e::es) t) (hn:x≠"__name__":=by decide) (hdb:(x == ("__debug__":Str))=false:=by decide)
  (he:starEach (e::es) X.env=(false,eval e X.env)::starEach es X.env:=by rfl) (hpl:(backTo pos (starEach es X.env)).any (·.1)=false:=by rfl):PE X (.Call (.Name x p) (e::es) [] pos) (tCB r t):=by
 intro pins s σ H Q I h
 refine ua (zDk I hg hm hv ?_ hn hdb)
 exact PyProof.Rows.callWith_builtin1 (thn (ha pos pins s σ H _ I h) fun us s1 hz7=>by obtain⟨vs,H1,I1,r1,q1⟩:=hz7;exact hc pins s1 σ H1 vs us Q I1 r1 q1) he hpl
theorem zOv (hc:zCb X (.type T) r) (hg:Gl X x) (hm:X.mg x=none) (hv:bootBuiltins x=some (.type T)) (ha:PA X (e::es) t) (hn:x≠"__name__":=by decide) (hdb:(x == ("__debug__":Str))=false:=by decide)
  (he:starEach (e::es) X.env=(false,eval e X.env)::starEach es X.env:=by rfl) (hpl:(backTo pos (starEach es X.env)).any (·.1)=false:=by rfl):PE X (.Call (.Name x p) (e::es) [] pos) (tCB r t):=by
 intro pins s σ H Q I h
 refine ua (zDk I hg hm hv ?_ hn hdb)
 exact v9 (thn (ha pos pins s σ H _ I h) fun us s1 hz8=>by obtain⟨vs,H1,I1,r1,q1⟩:=hz8;exact hc pins s1 σ H1 vs us Q I1 r1 q1) he hpl
end
end L2
namespace L2
open PySem PySem.Spec PyProof.Rows
section
variable {κ:Type}[DecidableEq κ]
noncomputable def valV (kvs:List (κ × V)) (k:κ):Option V:=(kvs.find? fun kv=>decide (kv.1=k)).map (·.2)
noncomputable def putK (kvs:List (κ × V)) (k:κ) (v:V):List (κ × V):=
 if(kvs.any fun kv=>decide (kv.1=k))=true then kvs.map (fun kv=>if kv.1=k then(kv.1,v)else kv)else kvs++[(k,v)]
theorem zHs {p:κ × V}{r:List (κ × V)}{k:κ}(e:p.1=k):valV (p::r) k=some p.2:=by simp[valV,uK,e]
theorem zHt {p:κ × V}{r:List (κ × V)}{k:κ}(e:¬ p.1=k):valV (p::r) k=valV r k:=by simp[valV,uK,e]
theorem zGe (kvs:List (κ × V)) (k:κ) (v:V):(putK kvs k v).length<=kvs.length+1:=by
 unfold putK
 split
 ·rw[xn];lia
 ·rw[vD,xY,vI];lia
theorem RelO.getD {o:Option V}{u:Option Value}{d:V}{d':Value}(r:RelO o u) (rd:RelV d d'):RelV (o.getD d) (u.getD d'):=by
 cases o with
 | none=>cases u with
  | none=>exact rd
  | some _=>exact(show False from r).elim
 | some _=>cases u with
  | none=>exact(show False from r).elim
  | some _=>exact r
theorem KV.val {kvs:List (κ × V)}{vs:List (κ × Value)}(r:KV kvs vs) (k:κ):RelO (valV kvs k) (valueAt vs k):=by
 unfold KV at r
 induction r with
 | nil=>exact True.intro
 | @cons p q ps qs h t ih=>
  obtain⟨h1,h2⟩:=h
  by_cases e:p.1=k
  ·have e':q.1=k:=h1.symm.trans e
   have b:valueAt (q::qs) k=some q.2:=by simp[valueAt,uK,e']
   rw[zHs e,b];exact h2
  ·have e':¬ q.1=k:=fun z=>e (h1.trans z)
   have b:valueAt (q::qs) k=valueAt qs k:=by simp[valueAt,uK,e']
   rw[zHt e,b];exact ih
theorem KV.any {kvs:List (κ × V)}{vs:List (κ × Value)}(r:KV kvs vs) (k:κ):(kvs.any fun kv=>decide (kv.1=k))=vs.any fun kv=>decide (kv.1=k):=by
 unfold KV at r
 induction r with
 | nil=>rfl
 | cons h t ih=>rw[List.any_cons,List.any_cons,ih,h.1]
theorem KV.repl {kvs:List (κ × V)}{vs:List (κ × Value)}(r:KV kvs vs) (k:κ) {y:V}{u:Value}(ry:RelV y u):
  KV (kvs.map fun kv=>if kv.1=k then(kv.1,y)else kv) (vs.map fun kv=>if kv.1=k then(kv.1,u)else kv):=by
 unfold KV at r ⊢
 induction r with
 | nil=>exact .nil
 | @cons p q ps qs h t ih=>
  rw[xt,xt]
  refine .cons ?_ ih
  obtain⟨h1,h2⟩:=h
  by_cases e:p.1=k
  ·rw[xc e,xc (h1.symm.trans e)];exact⟨h1,ry⟩
  ·rw[xf e,xf (fun z=>e (h1.trans z))];exact⟨h1,h2⟩
theorem KV.put {kvs:List (κ × V)}{vs:List (κ × Value)}(r:KV kvs vs) (k:κ) {y:V}{u:Value}(ry:RelV y u):KV (putK kvs k y) (stored vs k u):=by
 unfold putK stored
 rw[r.any k]
 by_cases e:(vs.any fun kv=>decide (kv.1=k))=true
 ·rw[xc e,xc e];exact r.repl k ry
 ·rw[xf e,xf e];exact Paired.snoc r ⟨rfl,ry⟩
theorem KV.keys {kvs:List (κ × V)}{vs:List (κ × Value)}(r:KV kvs vs):kvs.map (·.1)=vs.map (·.1):=by
 unfold KV at r
 induction r with
 | nil=>rfl
 | cons h t ih=>rw[xt,xt,ih,h.1]
theorem KV.length {kvs:List (κ × V)}{vs:List (κ × Value)}(r:KV kvs vs):kvs.length=vs.length:=Paired.length r
end
theorem zS6 {P:Program}{w:World}{k:Key}{u:Value}(r:RelV (kV k) u):(zBg P w).is k u=true:=by
 cases k with
 | inl i=>obtain⟨t,e⟩:=(show ∃t,u=Value.int i t from r);subst e;exact zKe P w i t
 | inr x=>obtain⟨t,e⟩:=(show ∃t,u=Value.str x t from r);subst e;exact zKd P w x t
theorem zJ9 {P:Program}{w:World}:∀{ks:List Key}{us:List Value},Vals (ks.map kV) us->ItemsAre (zBg P w) ks us
 | [],_,r=>by rw[vE]at r;cases r;exact .nil
 | k::ks,_,r=>by
  rw[xt]at r
  cases r with
  | cons h t=>exact .cons (zS6 h) (zJ9 t)
noncomputable abbrev KT (H:Hp):List (List Key × V)->List (List Key × Addr × Value)->Prop:=Paired fun p q=>p.1=q.1/\H q.2.1=some (.tup (p.1.map kV))/\RelV p.2 q.2.2
theorem KT.val {H:Hp}{kvs:List (List Key × V)}{xs:List (List Key × Addr × Value)}(r:KT H kvs xs) (k:List Key):RelO (valV kvs k) ((atKey xs k).map (·.2)):=by
 induction r with
 | nil=>exact True.intro
 | @cons p q ps qs h t ih=>
  obtain⟨h1,_,h2⟩:=h
  by_cases e:p.1=k
  ·have e':q.1=k:=h1.symm.trans e
   have b:atKey (q::qs) k=some q.2:=by simp[atKey,uK,e']
   rw[zHs e,b];exact h2
  ·have e':¬ q.1=k:=fun z=>e (h1.trans z)
   have b:atKey (q::qs) k=atKey qs k:=by simp[atKey,uK,e']
   rw[zHt e,b];exact ih
section
variable {P:Program}{w:World}{H:Hp}{h:Heap}{a:Addr}
theorem zXs {u:HO}(ok:HOk P w H h) (e:Rd H a u):ObjOk P w H h a u:=e.ok ok
theorem zWs {kvs:List (Key × V)}(ok:HOk P w H h) (e:Rd H a (.dK kvs)):kvs.length<=sizeLine/\(a == sysModules)=false/\∃vs,KV kvs vs/\h.DictOf (zBg P w) a vs:=
 show ObjOk P w H h a (.dK kvs)from zXs ok e
theorem zZt {kvs:List (Key × V)}(ok:HOk P w H h) (e:H a=some (.dK kvs)):kvs.length<=sizeLine/\(a == sysModules)=false/\∃vs,KV kvs vs/\h.DictOf (zBg P w) a vs:=zWs ok (.inl e)
theorem zTn {ks:List Key}(ok:HOk P w H h) (e:H a=some (.tup (ks.map kV))):(tupleKind (zBg P w)).is h ks a:=by
 obtain⟨_,its,r,o,h1,h2,n,h3⟩:=(show ObjOk P w H h a (.tup (ks.map kV))from ok a _ e)
 exact⟨o,its.toArray,n,h1,h2,h3,by simpa using zJ9 r⟩
theorem zZs {kvs:List (List Key × V)}(ok:HOk P w H h) (e:Rd H a (.dT kvs)):kvs.length<=sizeLine/\(a == sysModules)=false /\
  ∃xs,KT H kvs xs/\h.DictOfH (tupleKind (zBg P w)) a xs:=by
 obtain⟨z,y,xs,r,o,es,ep,h1,h2,h3,h4,h5⟩:=(show ObjOk P w H h a (.dT kvs)from zXs ok e)
 refine⟨z,y,xs,r,o,es,ep,h1,h2,h3,h4,fun x hx=>?_,h5⟩
 have all:∀{l:List (List Key × V)}{m:List (List Key × Addr × Value)},KT H l m->∀x∈m,(tupleKind (zBg P w)).is h x.1 x.2.1:=by
  intro l m q
  induction q with
  | nil=>intro x hx;exact nomatch hx
  | @cons p q ps qs hq t ih=>
   intro x hx
   rcases xm.mp hx with e|hx
   ·subst e
    exact zTn ok (by rw[<- hq.1];exact hq.2.1)
   ·exact ih x hx
 exact all r x hx
end
noncomputable def DGet (H:Hp) (a:Addr) (y:V) (r:Option V):Prop:=
 (∃kvs k,Rd H a (.dK kvs)/\y=kV k/\r=valV kvs k)\/∃kvs k b,Rd H a (.dT kvs)/\y=.ref b/\H b=some (.tup (k.map kV))/\r=valV kvs k
noncomputable def DPut (H:Hp) (a:Addr) (y v:V) (H':Hp):Prop:=
 (∃kvs k,H a=some (.dK kvs)/\y=kV k/\kvs.length<sizeLine/\H'=upd H a (.dK (putK kvs k v))) \/
 ∃kvs k b,H a=some (.dT kvs)/\y=.ref b/\H b=some (.tup (k.map kV))/\kvs.length<sizeLine/\H'=upd H a (.dT (putK kvs k v))
theorem DGet.k {H:Hp}{a:Addr}{kvs:List (Key × V)}{k:Key}(e:H a=some (.dK kvs)):DGet H a (kV k) (valV kvs k):=.inl ⟨kvs,k,.inl e,rfl,rfl⟩
theorem DGet.t {H:Hp}{a b:Addr}{kvs:List (List Key × V)}{k:List Key}(e:H a=some (.dT kvs)) (eb:H b=some (.tup (k.map kV))):DGet H a (.ref b) (valV kvs k):=.inr ⟨kvs,k,b,.inl e,rfl,eb,rfl⟩
theorem DPut.k {H:Hp}{a:Addr}{kvs:List (Key × V)}{k:Key}{v:V}(e:H a=some (.dK kvs)) (hl:kvs.length<sizeLine):DPut H a (kV k) v (upd H a (.dK (putK kvs k v))):=.inl ⟨kvs,k,e,rfl,hl,rfl⟩
theorem DPut.t {H:Hp}{a b:Addr}{kvs:List (List Key × V)}{k:List Key}{v:V}(e:H a=some (.dT kvs)) (eb:H b=some (.tup (k.map kV))) (hl:kvs.length<sizeLine):
  DPut H a (.ref b) v (upd H a (.dT (putK kvs k v))):=.inr ⟨kvs,k,b,e,rfl,eb,hl,rfl⟩
section
variable {X:Cx}{pins:List (Addr × Obj)}{σ:St}{H:Hp}{s:Shared}{a:Addr}{y v:V}{u r:Value}{o:Option V}{A:Around}{E:Value->Shared->Prop}
theorem Inv.big (I:Inv X pins σ H s):sysModules<s.heap.objs.size:=by
 have h:mainGlobals<s.heap.objs.size:=(I.mod.glob.keeps I.bk).lt
 exact xZ (by decide) h
theorem zQ6 {Q:Value->Shared->Prop}(hu:A.units+1<cLine) (I:Inv X pins σ H s) (g:DGet H a y (some v)) (ry:RelV y u) (h:∀w' s',Inv X pins σ H s'->RelV v w'->Q w' s'):
  wpAny (model X.prog X.w) A (getItem (.ref a) u) Q E s:=by
 rcases g with⟨kvs,k,e,ey,l⟩|⟨kvs,k,b,e,ey,eb,l⟩
 ·subst ey
  obtain⟨z,hd,vs,rel,dd⟩:=zWs I.hok e
  obtain⟨w',hw,rw'⟩:=RelO.some_of (v:=v) (o:=valueAt vs k) (by rw[l];exact rel.val k)
  exact wpAny_getItem_of (zS6 ry) dd.mapOf hw (h w' _ (I.tok _) rw')
 ·subst ey
  cases(show u=Value.ref b from ry)
  obtain⟨z,hd,xs,rel,dd⟩:=zZs I.hok e
  obtain⟨w',hw,rw'⟩:=RelO.some_of (v:=v) (o:=(atKey xs k).map (·.2)) (by rw[l];exact rel.val k)
  obtain⟨p,hp,hp2⟩:=Option.map_eq_some_iff.mp hw
  refine wpAny_getItem_heap (tupleKind_room_in1 hu) (zTn I.hok eb) dd hp ?_
  rw[hp2]
  exact h w' _ (I.tok _) rw'
theorem zQ5 {h':Heap}{t':Nat}{ob:HO}(I:Inv X pins σ H s) (mu:Mut (H a)) (hs:Heap.SameBut a s.heap h') (he:∃q,h'.get? a=some q) (new:ObjOk X.prog X.w (upd H a ob) h' a ob):
  Inv X pins σ (upd H a ob) { s with heap:=h',toks:=t' }:=
 I.write (x:=a) (e:=a) mu (.inl rfl) (fun b q hb z=>(hs.2 b hb).trans z) he new
theorem zTq {P:Program}{w:World}{H':Hp}{h':Heap}{kvs:List (Key × V)}{vs:List (Key × Value)}(z:kvs.length<=sizeLine) (hd:(a == sysModules)=false) (rel:KV kvs vs) (dd:h'.DictOf (zBg P w) a vs):
  ObjOk P w H' h' a (.dK kvs):=⟨z,hd,vs,rel,dd⟩
end
theorem zKr {X:Cx}{pins:List (Addr × Obj)}{σ:St}{H:Hp}{s:Shared}{a:Addr}{y:V}{o:Option V}(I:Inv X pins σ H s) (g:DGet H a y o):s.TypeIs (.ref a) "dict":=by
 rcases g with⟨kvs,k,e,_,_⟩|⟨kvs,k,b,e,_,_,_⟩
 ·obtain⟨_,_,vs,_,dd⟩:=zWs I.hok e
  exact dd.typeIs
 ·obtain⟨_,_,xs,_,dd⟩:=zZs I.hok e
  exact dd.typeIs
theorem zSn {P:Program}{w:World}{H:Hp}(h:Heap) (hb:sysModules<h.objs.size):ObjOk P w H (h.push { cls:=.type "dict",data:=.dict #[] }) h.objs.size (.dK []):=
 ⟨vf _,beq_eq_false_iff_ne.mpr (xo (xq hb)),[],.nil,Heap.DictOf.new h⟩
noncomputable def zL5:List (TE × TE)->St->Hp->(List (V × V)->Hp->Prop)->Prop
 | [],_,H,Q=>Q [] H
 | (tk,tv)::r,σ,H,Q=>tk σ H fun x H1=>tv σ H1 fun y H2=>zL5 r σ H2 fun ps H3=>Q ((x,y)::ps) H3
noncomputable abbrev VV:List (V × V)->List (Value × Value)->Prop:=Paired fun p q=>RelV p.1 q.1/\RelV p.2 q.2
noncomputable def PPs (X:Cx) (pos:Pos) (keys:List (Option Expr)) (values:List Expr) (trs:List (TE × TE)):Prop:=
 ∀(pins:List (Addr × Obj)) (s:Shared) (σ:St) (H:Hp) (Q:List (V × V)->Hp->Prop),Inv X pins σ H s->zL5 trs σ H Q->
  wpAny (model X.prog X.w) X.A (evalPairs (pairTrees keys values X.env pos)) (fun vs s'=>∃ps H',Inv X pins σ H' s'/\VV ps vs/\Q ps H') X.xe s
theorem zV4 {X:Cx}{pos:Pos}:PPs X pos [] [] []:=fun pins s σ H Q I h=>pairTrees_nil_walk ⟨[],H,I,.nil,h⟩
theorem zRa {X:Cx}{pos:Pos}{k v:Expr}{ks:List (Option Expr)}{vs:List Expr}{tk tv:TE}{trs:List (TE × TE)}(hk:PE X k tk) (hv:PE X v tv) (hr:PPs X pos ks vs trs):
  PPs X pos (some k::ks) (v::vs) ((tk,tv)::trs):=fun pins s σ H Q I h=>
 pairTrees_cons_walk (thn (hk pins s σ H _ I h) fun u s1 ⟨x,H1,I1,rx,q1⟩=>thn (hv pins s1 σ H1 _ I1 q1) fun w2 s2 ⟨y,H2,I2,ry,q2⟩=>
  thn (hr pins s2 σ H2 _ I2 q2) fun ws s3 hz9=>by obtain⟨ps,H3,I3,rel,q3⟩:=hz9;exact ⟨(x,y)::ps,H3,I3,.cons ⟨rx,ry⟩ rel,q3⟩)
noncomputable def zFl (kvs more:List (Key × V)):List (Key × V):=more.foldl (fun acc kv=>putK acc kv.1 kv.2) kvs
theorem KV.merge:∀{more:List (Key × V)}{rs:List (Key × Value)}{kvs:List (Key × V)}{vs:List (Key × Value)},KV more rs->KV kvs vs->KV (zFl kvs more) (merged vs rs):=by
 intro more rs kvs vs r
 unfold KV at r
 induction r generalizing kvs vs with
 | nil=>intro q;exact q
 | @cons p q ps qs h t ih=>
  intro r0
  have e:KV (putK kvs p.1 p.2) (stored vs q.1 q.2):=by
   have:=r0.put p.1 h.2
   rw[<- h.1];exact this
  exact ih e
theorem zEu:∀(more kvs:List (Key × V)),(zFl kvs more).length<=kvs.length+more.length
 | [],kvs=>by show kvs.length<=kvs.length+0;lia
 | p::r,kvs=>by
  have h1:=zEu r (putK kvs p.1 p.2)
  have h2:=zGe kvs p.1 p.2
  show(zFl (putK kvs p.1 p.2) r).length<=_
  rw[xY];lia
theorem zHl {P:Program}{w:World}:∀{kvs:List (Key × V)}{ws:List (Value × Value)},VV (kvs.map fun kv=>(kV kv.1,kv.2)) ws->∃rs,Carries (zBg P w) ws rs/\KV kvs rs
 | [],_,r=>by rw[vE]at r;cases r;exact⟨[],True.intro,.nil⟩
 | p::kvs,_,r=>by
  rw[xt]at r
  cases r with
  | @cons a b as bs h t=>
   obtain⟨rs,c,q⟩:=zHl (P:=P) (w:=w) t
   obtain⟨b1,b2⟩:=b
   exact⟨(p.1,b2)::rs,⟨zS6 h.1,rfl,c⟩,.cons ⟨rfl,h.2⟩ q⟩
noncomputable def zXk (trs:List (TE × TE)):TE:=fun σ H Q=>∀p,H p=none->zL5 trs σ (upd H p (.dK [])) fun ps H2=>H2 p=some (.dK [])/\∃kvs:List (Key × V),ps=kvs.map (fun kv=>(kV kv.1,kv.2))/\kvs.length<=15/\Q (.ref p) (upd H2 p (.dK (zFl [] kvs)))
theorem zVg {X:Cx}{pos:Pos}{keys:List (Option Expr)}{values:List Expr}{trs:List (TE × TE)}(h:PPs X pos keys values trs) (hall:keys.all (·.isSome)=true) (hl:keys.length=values.length) (h0:keys≠[])
  (h15:keys.length<=15):PE X (.Dict keys values pos) (zXk trs):=by
 intro pins s σ H Q I q
 have hn:=I.hok.fresh (xh s.heap.objs.size)
 have I1:=I.laid (a:=s.heap.objs.size) (o:=.dK []) (h':=s.heap.push { cls:=.type "dict",data:=.dict #[] }) (t':=s.toks) (fun _ _ q=>xj _ q) (xh _) (zSn s.heap I.big)
 refine wpAny_Dict_walk (knd:=zBg X.prog X.w) hall hl h0 h15 (thn (h pins _ σ _ _ I1 (q _ hn)) fun ws s2 hq1=>?_)
 obtain⟨ps,H2,I2,rel,e,kvs,ep,lk,q2⟩:=hq1
 subst ep
 obtain⟨rs,c,rk⟩:=zHl (P:=X.prog) (w:=X.w) rel
 obtain⟨z,hd,vs0,r0,dd⟩:=zZt I2.hok e
 cases r0
 refine⟨rs,c,dd,fun h' dd' hs=>⟨.ref s.heap.objs.size,_,?_,rfl,q2⟩⟩
 have hz:(zFl [] kvs).length<=sizeLine:=by
  have h1:=zEu kvs []
  rw[vI]at h1
  rw[vW];lia
 have he:∃q,h'.get? s.heap.objs.size=some q:=let ⟨q,_,_,hq,_⟩:=dd';⟨q,hq⟩
 exact zQ5 I2 (by rw[e];exact True.intro) hs he (zTq hz hd (rk.merge .nil) dd')
structure M1 (X:Cx) (o:Expr) (m:Str) (apos:Pos) (e:Expr) (cpos:Pos):Prop where
 base:attributeBase o m X.env (eval o X.env)=eval o X.env
 few:((backTo cpos (starEach [e] X.env)).all (fun x=>!x.1) && (backToKw cpos (keywordEach [] X.env)).all (fun x=>x.1.isSome)
  && decide (([e]:List Expr).length+([]:List Keyword).length+(if([]:List Keyword).isEmpty then 0 else 1)<30))=true
 line:(apos.endLine == cpos.line)=true
 trees:backTo cpos (starEach [e] X.env)=[(false,eval e X.env)]
structure M2 (X:Cx) (o:Expr) (m:Str) (apos:Pos) (e f:Expr) (cpos:Pos):Prop where
 base:attributeBase o m X.env (eval o X.env)=eval o X.env
 few:((backTo cpos (starEach [e,f] X.env)).all (fun x=>!x.1) && (backToKw cpos (keywordEach [] X.env)).all (fun x=>x.1.isSome)
  && decide (([e,f]:List Expr).length+([]:List Keyword).length+(if([]:List Keyword).isEmpty then 0 else 1)<30))=true
 line:(apos.endLine == cpos.line)=true
 trees:backTo cpos (starEach [e,f] X.env)=[(false,eval e X.env),(false,eval f X.env)]
end L2
namespace HT
open PySem PyProof.Rows
section
open PySem.SeqAt
open PySem.AutoSeq1 (wpAny_loadPart')
open PySem.MeetsSeq PySem.MeetsSeq2 PySem.MeetsSeq3
end
section
variable {prog:Program}{w:World}{A:Around}{E:Value->Shared->Prop}{s:Shared}
theorem cat_tup {t b:Addr}{vs ws:List Value}{Q:Value->Shared->Prop}(ht:IsTup s.heap t vs.toArray) (hb:IsTup s.heap b ws.toArray) (hv:vs≠[])
  (h1:ws=[]->Q (.ref t) s) (h2:ws≠[]->Q (.ref s.heap.objs.size) { s with heap:=s.heap.push { cls:=.type "tuple",data:=.seq (vs++ws).toArray } })
  (hsz:vs.length+ws.length<=sizeLine):wpAny (model prog w) A (binaryOp .Add (.ref t) (.ref b)) Q E s:=by
 obtain⟨⟨cls,dd,data,sl⟩,ho,hc,n,hd⟩:=id ht
 obtain⟨⟨cls2,dd2,data2,sl2⟩,ho2,hc2,n2,hd2⟩:=id hb
 simp only at hc hd hc2 hd2
 subst hc hd hc2 hd2
 have e:vs.toArray++ws.toArray=(vs++ws).toArray:=by simp
 by_cases hw:ws=[]
 ·exact concat_meets ⟨_,ho,rfl⟩ ⟨_,ho2,rfl⟩ noFill_tuple_add seq_tuple_add PySem.F.slot_tuple_add PySem.F.entry_tuple_add (PySem.F.args_tuple_add_2 _ _)
   (tuple_addW1 t b vs.toArray ws.toArray n n2 dd dd2 sl sl2 (by simpa using hv) (by simp[hw])) ⟨ho,ho2,h1 hw⟩
 ·refine concat_meets ⟨_,ho,rfl⟩ ⟨_,ho2,rfl⟩ noFill_tuple_add seq_tuple_add PySem.F.slot_tuple_add PySem.F.entry_tuple_add (PySem.F.args_tuple_add_2 _ _)
   (tuple_addW2 t b vs.toArray ws.toArray n n2 dd dd2 sl sl2 (by simpa using hv) (by simpa using hw) (by rw[xv,xv];exact hsz)) ⟨ho,ho2,?_⟩
  rw[e]
  exact h2 hw
noncomputable def sIx (n d:Nat):Option Int->Nat
 | none=>d
 | some v=>if v<0 then(v+(n:Int)).toNat else min v.toNat n
theorem zXq (n d:Nat) (hd:d<=n) (o:Option Int):sIx n d o<=n:=by
 cases o with
 | none=>exact hd
 | some v=>
  show(if v<0 then(v+(n:Int)).toNat else min v.toNat n)<=n
  by_cases hv:v<0
  ·rw[xc hv];lia
  ·rw[xf hv];exact Nat.min_le_right _ _
theorem zQb (v:Int) (n d:Nat):(if v<0 then max (v+(n:Int)) 0 else min v (n:Int))=((sIx n d (some v):Nat):Int):=by
 show(if v<0 then max (v+(n:Int)) 0 else min v (n:Int))=(((if v<0 then(v+(n:Int)).toNat else min v.toNat n):Nat):Int)
 by_cases hv:v<0
 ·simp only[xc hv];lia
 ·simp only[xf hv];lia
theorem zNg (lo hi:Option Int) (n:Nat):Builtin.Slice.sliceAdjust lo hi 1 (n:Int)=(((sIx n 0 lo:Nat):Int),((sIx n n hi:Nat):Int)):=by
 have h1:¬ ((1:Int)<0):=by nofun
 unfold Builtin.Slice.sliceAdjust
 simp only[h1,xO]
 refine Prod.ext ?_ ?_
 ·cases lo with
  | none=>rfl
  | some v=>exact zQb v n 0
 ·cases hi with
  | none=>rfl
  | some v=>exact zQb v n n
theorem zMn (i j:Nat):Builtin.Slice.slicePlaces (i:Int) (j:Int) 1=j-i:=by
 unfold Builtin.Slice.slicePlaces
 have h1:(1:Int) > 0:=by nofun
 simp only[h1,xi,Int.ediv_one]
 split <;> lia
theorem slicePart_ {v:Value}{o:Option Int}{Q:Option Int->Shared->Prop}(p:IsPart v o) (h:Q o s):wpAny (model prog w) A (Builtin.Slice.slicePartIndex v) Q E s:=by
 cases p with
 | none=>exact slicePart_none h
 | int i t=>exact slicePart_int h
theorem sliceApplied_gen {sl:Addr}{vl vu:Value}{lo hi:Option Int}{n:Nat}{Q:Int × Int × Nat->Shared->Prop}(hs:s.heap.IsSliceOf sl vl vu .none) (pl:IsPart vl lo) (pu:IsPart vu hi)
  (h:Q (((sIx n 0 lo:Nat):Int),1,sIx n n hi-sIx n 0 lo) s):wpAny (model prog w) A (Builtin.Slice.sliceApplied (.ref sl) (pure (n:Int))) Q E s:=by
 obtain⟨os,hos,hcs,hds⟩:=id hs
 unfold Builtin.Slice.sliceApplied Builtin.Slice.sliceFields
 refine xa (xa (xD hos hds (x:=vl) rfl (xa (xD hos hds (x:=vu) rfl (xa (xD hos hds (x:=.none) rfl (xg ?_)))))))
 refine xa (slicePart_none ?_)
 show wpAny _ _ (if((1:Int) == 0)=true then _ else _) _ _ s
 rw[xf (by decide)]
 refine xa (slicePart_ pl (xa (slicePart_ pu (xa (xg ?_)))))
 show wpAny _ _ (match Builtin.Slice.sliceAdjust lo hi 1 (n:Int)with|(lo,hi)=>pure (lo,(1:Int),Builtin.Slice.slicePlaces lo hi 1)) _ _ s
 rw[zNg lo hi n]
 show wpAny _ _ (pure (((sIx n 0 lo:Nat):Int),(1:Int),Builtin.Slice.slicePlaces ((sIx n 0 lo:Nat):Int) ((sIx n n hi:Nat):Int) 1)) _ _ s
 rw[zMn]
 exact xg h
theorem zRg (xs:Array Value) (i k:Nat):((List.range k).filterMap fun(m:Nat)=>xs[((i:Int)+(m:Int)*1).toNat]?).toArray=((xs.toList.drop i).take k).toArray:=by
 have e:(fun(m:Nat)=>xs[((i:Int)+(m:Int)*1).toNat]?)=fun m=>xs[i+m]?:=by
  funext m
  have:((i:Int)+(m:Int)*1).toNat=i+m:=by nofun
  rw[this]
 rw[e]
 have:=pick_run xs i k
 rw[List.filterMap_map]at this
 have e2:((fun x=>xs[x]?) ∘ fun x=>i+x)=fun m=>xs[i+m]?:=rfl
 rw[e2]at this
 rw[this]
theorem getItem_tuple_cut {t sl:Addr}{items:Array Value}{vl vu:Value}{lo hi:Option Int}{Q:Value->Shared->Prop}(ht:IsTup s.heap t items) (hs:s.heap.IsSliceOf sl vl vu .none) (pl:IsPart vl lo) (pu:IsPart vu hi)
  (hw:¬ (sIx items.size 0 lo=0/\sIx items.size items.size hi=items.size))
  (h:Q (.ref s.heap.objs.size) { s with heap:=s.heap.push { cls:=.type "tuple",data:=.seq ((items.toList.drop (sIx items.size 0 lo)).take (sIx items.size items.size hi-sIx items.size 0 lo)).toArray } })
  (hsz:items.size<=sizeLine):wpAny (model prog w) A (getItem (.ref t) (.ref sl)) Q E s:=by
 have htake:sizeOk (.seq ((items.toList.drop (sIx items.size 0 lo)).take (sIx items.size items.size hi-sIx items.size 0 lo)).toArray):=by
  show((items.toList.drop (sIx items.size 0 lo)).take (sIx items.size items.size hi-sIx items.size 0 lo)).toArray.size<=sizeLine
  rw[xv,vH,vY,uG]
  lia
 have hj:sIx items.size items.size hi<=items.size:=zXq _ _ (xh _) hi
 obtain⟨os,hos,hcs,hds⟩:=id hs
 have hTs:s.TypeIs (.ref sl) "slice":=⟨os,hos,hcs⟩
 unfold getItem
 try with_reducible refine xF ?_
 first|refine xa (xg ?_)|skip
 refine xa (wpAny_sequenceKey ht.typeIs (by decide) ?_)
 refine xa (vF (name:=Str.ofString "__getitem__") ht.typeIs vZ
  (vk vZ ht.typeIs entry_tuple_getitem ?_ (args_tuple_getitem _ _)))
 show wpAny _ _ (Builtin.Tuple.tupleItemsOf (.ref t) >>= _) _ _ s
 refine xa (tupleItemsOf_ ht ?_)
 refine xa (uc hTs ?_)
 rw[xc (by decide)]
 refine xa (sliceApplied_gen hs pl pu ?_)
 have hno:¬ ((((sIx items.size 0 lo:Nat):Int) == 0 && (1:Int) == 1 && (sIx items.size items.size hi-sIx items.size 0 lo) == items.size)=true):=by
  intro q
  rw[xM,xM]at q
  have q1:((sIx items.size 0 lo:Nat):Int)=0:=eq_of_beq q.1.1
  have q2:sIx items.size items.size hi-sIx items.size 0 lo=items.size:=eq_of_beq q.2
  exact hw ⟨by nofun,by nofun⟩
 show wpAny _ _ (if(((sIx items.size 0 lo:Nat):Int) == 0 && (1:Int) == 1 && (sIx items.size items.size hi-sIx items.size 0 lo) == items.size)=true then _ else _) _ _ s
 rw[xf hno,zRg]
 first
  | exact xa (m:=Builtin.Tuple.tupleExact _) (vd (xg ⟨_,rfl,xg h⟩) htake)
  | exact xa (m:=Builtin.Tuple.tupleExact _) (vd (xa (xg (xg ⟨_,rfl,xg h⟩))) htake)
  | exact xa (xa (m:=Builtin.Tuple.tupleExact _) (vd (xg (xg ⟨_,rfl,xg h⟩)) htake))
  | exact xa (xa (m:=Builtin.Tuple.tupleExact _) (vd (xg ⟨_,rfl,xg h⟩) htake))
end
end HT
namespace L2
open PySem PySem.Spec PyProof.Rows
noncomputable abbrev TO:=St->Hp->(Option Int->Hp->Prop)->Prop
noncomputable def PO (X:Cx) (e:Option Expr) (t:TO):Prop:=
 ∀(pins:List (Addr × Obj)) (s:Shared) (σ:St) (H:Hp) (Q:Option Int->Hp->Prop),Inv X pins σ H s->t σ H Q->
  wpAny (model X.prog X.w) X.A (evalPart e X.env) (fun u s'=>∃o H',Inv X pins σ H' s'/\IsPart u o/\Q o H') X.xe s
noncomputable def zNt:TO:=fun _ H Q=>Q none H
noncomputable def zXh (t:TE):TO:=fun σ H Q=>t σ H fun x H1=>∃i,x=.int i/\Q (some i) H1
section
variable {X:Cx}{e:Expr}{te:TE}{lo hi:Option Expr}{tl th:TO}{pos p2:Pos}
theorem zV6:PO X none zNt:=by
 intro pins s σ H Q I h
 rw[evalPart_none]
 exact xg ⟨none,H,I,.none,h⟩
theorem zV5 (h:PE X e te):PO X (some e) (zXh te):=by
 intro pins s σ H Q I hw
 rw[evalPart_some]
 refine thn (h pins s σ H _ I hw) fun u s1 hq1=>?_
 obtain⟨x,H1,I1,r1,q1⟩:=hq1
 obtain⟨i,rfl,q⟩:=q1
 obtain⟨t,rfl⟩:=r1
 exact⟨some i,H1,I1,.int i t,q⟩
noncomputable def SlR (X:Cx) (r:V->Option Int->Option Int->Hp->VK->Prop):Prop:=
 ∀(pins:List (Addr × Obj)) (s:Shared) (σ:St) (H:Hp) (x:V) (v vl vu:Value) (lo hi:Option Int) (sl:Addr) (Q:VK),Inv X pins σ H s->RelV x v->s.heap.IsSliceOf sl vl vu .none->IsPart vl lo->IsPart vu hi->r x lo hi H Q->
  ∃T id,typeLookup (.type T) "__getitem__"=pure (some (.builtin id))/\s.TypeIs v T/\wpAny (model X.prog X.w) X.A (getItem v (.ref sl)) (EP X pins σ Q) X.xe s
noncomputable def tSl (r:V->Option Int->Option Int->Hp->VK->Prop) (te:TE) (tl th:TO):TE:=fun σ H Q=>te σ H fun x H1=>tl σ H1 fun l H2=>th σ H2 fun u H3=>r x l u H3 Q
theorem zRj {r:V->Option Int->Option Int->Hp->VK->Prop}(hr:SlR X r) (he:PE X e te) (hl:PO X lo tl) (hu:PO X hi th):PE X (.Subscript e (.Slice lo hi none p2) pos) (tSl r te tl th):=by
 intro pins s σ H Q I h
 refine Subscript_ (thn (he pins s σ H _ I h) fun v s1 hq1=>?_)
 obtain⟨x,H1,I1,r1,q1⟩:=hq1
 refine wpAny_Slice (thn (hl pins s1 σ H1 _ I1 q1) fun vl s2 ⟨l,H2,I2,pl,q2⟩=>thn (hu pins s2 σ H2 _ I2 q2) fun vu s3 hq1=>?_)
 obtain⟨u,H3,I3,pu,q3⟩:=hq1
 rw[evalPart_none]
 refine xg ?_
 have I4:Inv X pins σ H3 { s3 with heap:=s3.heap.push { cls:=.type "slice",data:=.fields #[vl,vu,.none] } }:=I3.kept (t':=s3.toks) fun b ob q=>xj _ q
 obtain⟨T,id,hT,ht,hg⟩:=hr pins { s3 with heap:=s3.heap.push { cls:=.type "slice",data:=.fields #[vl,vu,.none] } } σ H3 x v vl vu l u s3.heap.objs.size Q I4 r1 (Heap.IsSliceOf.new ..) pl pu q3
 show wpAny (model X.prog X.w) X.A (subscriptTail e (.Slice lo hi none p2) v (.ref s3.heap.objs.size)) (EP X pins σ Q) X.xe { s3 with heap:=s3.heap.push { cls:=.type "slice",data:=.fields #[vl,vu,.none] } }
 exact tail_any (ops:=[.ref s3.heap.objs.size,v]) ht hT hg (by with_unfolding_all rfl)
noncomputable def cutV (xs:List V) (lo hi:Option Int):List V:=(xs.drop (HT.sIx xs.length 0 lo)).take (HT.sIx xs.length xs.length hi-HT.sIx xs.length 0 lo)
theorem zGn (xs:List V) (lo hi:Option Int):(cutV xs lo hi).length<=xs.length:=by
 unfold cutV
 rw[vH,vY]
 lia
noncomputable def rSlT (K:PySem.W.Frag):V->Option Int->Option Int->Hp->VK->Prop:=fun x lo hi H Q=>∃a xs,x=.ref a/\SqT K H a xs /\
 ¬ (HT.sIx xs.length 0 lo=0/\HT.sIx xs.length xs.length hi=xs.length)/\∀p,H p=none->Q (.ref p) (upd H p (.tup (cutV xs lo hi)))
theorem zXp:SlR X (rSlT X.K):=by
 intro pins s σ H x v vl vu lo hi sl Q I rx hs pl pu h
 obtain⟨a,xs,rfl,hx,hw,q⟩:=h
 cases rx
 obtain⟨its,r,ht,hz⟩:=I.tuple hx
 have hlen:its.toArray.size=xs.length:=by rw[xv];exact r.length.symm
 refine⟨"tuple",_,vZ.lookup,ht.typeIs,?_⟩
 refine HT.getItem_tuple_cut ht hs pl pu (by rw[hlen];exact hw) ?_ (by rw[hlen];exact hz)
 rw[hlen]
 refine⟨.ref s.heap.objs.size,_,I.laid (t':=s.toks) (o:=.tup (cutV xs lo hi)) (fun b ob q=>xj _ q) (xh _) ?_,rfl,q _ (I.hok.fresh (xh _))⟩
 exact⟨xH (zGn xs lo hi) hz,_,(r.drop (HT.sIx xs.length 0 lo)).take (HT.sIx xs.length xs.length hi-HT.sIx xs.length 0 lo),IsTup.new _ _⟩
noncomputable def yAc (K:PySem.W.Frag):R2:=fun x y H Q=>∃a b xs ys,x=.ref a/\y=.ref b/\SqT K H a xs/\SqT K H b ys/\xs≠[]/\xs.length+ys.length<=sizeLine /\
 (ys=[]->Q (.ref a) H)/\(ys≠[]->∀p,H p=none->Q (.ref p) (upd H p (.tup (xs++ys))))
theorem Vals.nil_iff {xs:List V}{us:List Value}(r:Vals xs us):us=[] <-> xs=[]:=by
 cases r with
 | nil=>simp
 | cons _ _=>simp
theorem zVq:OpR X (binaryOp .Add) (yAc X.K):=by
 intro pins s σ H x y v u Q I rx ry h
 obtain⟨a,b,xs,ys,rfl,rfl,ha,hb,hx,hz,q1,q2⟩:=h
 cases rx
 cases ry
 obtain⟨its,r1,p1,_⟩:=I.tuple ha
 obtain⟨its2,r2,p2,_⟩:=I.tuple hb
 refine HT.cat_tup p1 p2 (fun z=>hx (r1.nil_iff.mp z)) (fun z=>⟨.ref a,H,I,rfl,q1 (r2.nil_iff.mp z)⟩) (fun z=>?_) (by rw[<- r1.length,<- r2.length];exact hz)
 refine⟨.ref s.heap.objs.size,_,I.laid (t':=s.toks) (o:=.tup (xs++ys)) (fun b ob q=>xj _ q) (xh _) ?_,rfl,q2 (fun w=>z (r2.nil_iff.mpr w)) _ (I.hok.fresh (xh _))⟩
 exact⟨by rw[vD];exact hz,_,r1.append r2,IsTup.new _ _⟩
end
end L2
namespace L2
open PySem PySem.Spec PyProof.Rows
noncomputable def ixN (n:Nat) (i:Int):Option Nat:=if 0<=i then(if i<n then some i.toNat else none)else if -(n:Int)<=i then some (i+n).toNat else none
noncomputable def atI {α:Type}(xs:List α) (i:Int):Option α:=(ixN xs.length i).bind fun j=>xs[j]?
theorem zW5 {n:Nat}{i:Int}{j:Nat}(h:ixN n i=some j):seqIndex? i n=some j/\j<n/\-(n:Int)<=i/\i<n:=by
 unfold ixN at h
 by_cases h0:0<=i
 ·rw[xc h0]at h
  by_cases h1:i<n
  ·rw[xc h1]at h
   have e:i.toNat=j:=xE h
   exact⟨by rw[seqIndex_of h0 h1,e],by nofun,by nofun,h1⟩
  ·rw[xf h1]at h;cases h
 ·rw[xf h0]at h
  by_cases h1:-(n:Int)<=i
  ·rw[xc h1]at h
   have e:(i+n).toNat=j:=xE h
   exact⟨by rw[seqIndex_neg (by nofun) h1,e],by nofun,h1,by nofun⟩
  ·rw[xf h1]at h;cases h
theorem zQm {α:Type}{xs:List α}{i:Int}{v:α}(h:atI xs i=some v):∃j,seqIndex? i xs.length=some j/\xs[j]?=some v/\j<xs.length/\-(xs.length:Int)<=i/\i<xs.length:=by
 unfold atI at h
 cases e:ixN xs.length i with
 | none=>rw[e]at h;cases h
 | some j=>
  rw[e]at h
  obtain⟨h1,h2,h3,h4⟩:=zW5 e
  exact⟨j,h1,h,h2,h3,h4⟩
noncomputable def zQs (b:Expr):Prop:=∀o i,subscripted b false o i=operate [o,i] (getItem o i)
noncomputable def IxR (X:Cx) (r:R2):Prop:=
 ∀(value slice:Expr) (pins:List (Addr × Obj)) (s:Shared) (σ:St) (H:Hp) (x y:V) (v u:Value) (Q:VK),Inv X pins σ H s->RelV x v->RelV y u->r x y H Q->
  subscripted slice false v u=operate [v,u] (getItem v u)->wpAny (model X.prog X.w) X.A (subscriptTail value slice v u) (EP X pins σ Q) X.xe s
noncomputable def MtR (X:Cx) (id:String) (r:V->List V->Hp->VK->Prop):Prop:=
 ∀(pins:List (Addr × Obj)) (s:Shared) (σ:St) (H:Hp) (x:V) (xs:List V) (v:Value) (us:List Value) (Q:VK),Inv X pins σ H s->RelV x v->Vals xs us->r x xs H Q->
  wpAny (model X.prog X.w) X.A (call (.builtin id) (v::us)) (EP X pins σ Q) X.xe s
section
variable {X:Cx}{a b:Expr}{ta tb:TE}{pos:Pos}
theorem yAj {r:R2}(hr:IxR X r) (ha:PE X a ta) (hb:PE X b tb) (hs:zQs b):PE X (.Subscript a b pos) (tOp r ta tb):=by
 intro pins s σ H Q I h
 exact Subscript_ (binT ha hb I h fun v u s2 x y H2 I2 rx ry q=>hr a b pins s2 σ H2 x y v u Q I2 rx ry q (hs _ _))
noncomputable def rIxL (K:PySem.W.Frag):R2:=fun x y H Q=>∃p xs i v,x=.ref p/\y=.int i/\SqL K H p xs/\atI xs i=some v/\Q v H
noncomputable def rIxT (K:PySem.W.Frag):R2:=fun x y H Q=>∃p xs i v,x=.ref p/\y=.int i/\SqT K H p xs/\atI xs i=some v/\Q v H
theorem zW4:IxR X (rIxL X.K):=by
 intro value slice pins s σ H x y v u Q I rx ry h hs
 obtain⟨p,xs,i,z,rfl,rfl,hq,he,q⟩:=h
 cases rx
 obtain⟨t,rfl⟩:=ry
 obtain⟨its,r,pl,hz⟩:=I.list hq
 obtain⟨j,h1,h2,h3,h4,h5⟩:=zQm he
 obtain⟨w,ew,rw'⟩:=r.get h2
 have hl:=r.length
 have hn:=line63
 have fin:EP X pins σ Q w s:=⟨z,H,I,rw',q⟩
 by_cases h0:0<=i
 ·have hj:i.toNat=j:=by
   rw[seqIndex_of h0 h5]at h1
   exact xE h1
  exact item_listR pl.isList h0 (by nofun) (by rw[hj];simpa using ew) fin hs
 ·have hj:(i+(its.toArray.size:Int)).toNat=j:=by
   rw[seqIndex_neg (by nofun) h4]at h1
   rw[xv,<- hl]
   exact xE h1
  exact subscriptTail_builtinR (x:=w) pl.isList.typeIs slot_list_getitem.lookup
   (wpAny_getItem_list_neg (Q:=fun r s'=>r=w/\EP X pins σ Q r s') pl.isList (by nofun) (by rw[xv] <;> lia) (by nofun) (by rw[hj];simpa using ew) ⟨rfl,fin⟩) hs
theorem zZc:IxR X (rIxT X.K):=by
 intro value slice pins s σ H x y v u Q I rx ry h hs
 obtain⟨p,xs,i,z,rfl,rfl,hq,he,q⟩:=h
 cases rx
 obtain⟨t,rfl⟩:=ry
 obtain⟨its,r,pl,hz⟩:=I.tuple hq
 obtain⟨j,h1,h2,h3,h4,h5⟩:=zQm he
 obtain⟨w,ew,rw'⟩:=r.get h2
 have hl:=r.length
 have hn:=line63
 have fin:EP X pins σ Q w s:=⟨z,H,I,rw',q⟩
 exact subscriptTail_builtinR (x:=w) pl.typeIs slot_tuple_getitem.lookup
  (getItem_tuple (j:=j) (Q:=fun r s'=>r=w/\EP X pins σ Q r s') pl (by nofun) (by nofun) (by rw[xv,<- hl];exact h1) (by simpa using ew) ⟨rfl,fin⟩) hs
theorem zIs (lo hi:Option Int) (n:Nat):(sliceBounds lo hi none n).1=((HT.sIx n 0 lo:Nat):Int)/\(sliceBounds lo hi none n).2.1=((HT.sIx n n hi:Nat):Int)/\(sliceBounds lo hi none n).2.2=1:=by
 refine⟨?_,?_,rfl⟩
 ·cases lo with
  | none=>simp[sliceBounds,HT.sIx]
  | some i=>
   simp only[sliceBounds,HT.sIx,Option.getD_none,show(1:Int) > 0 by decide,xi]
   by_cases h:i<0
   ·simp only[h,xi] <;> lia
   ·simp only[h,xO] <;> lia
 ·cases hi with
  | none=>simp[sliceBounds,HT.sIx]
  | some i=>
   simp only[sliceBounds,HT.sIx,Option.getD_none,show(1:Int) > 0 by decide,xi]
   by_cases h:i<0
   ·simp only[h,xi] <;> lia
   ·simp only[h,xO] <;> lia
theorem zHz (its:List Value) (lo hi:Option Int):slicePick its.toArray lo hi none=((its.drop (HT.sIx its.length 0 lo)).take (HT.sIx its.length its.length hi-HT.sIx its.length 0 lo)).toArray:=by
 obtain⟨h1,h2,h3⟩:=zIs lo hi its.toArray.size
 unfold slicePick
 rw[h1,h2,h3]
 simp only[sliceRange_one,pick_run,xv] <;> rfl
noncomputable def rSlL (K:PySem.W.Frag):V->Option Int->Option Int->Hp->VK->Prop:=fun x lo hi H Q=>∃a xs,x=.ref a/\SqL K H a xs/\∀p,H p=none->Q (.ref p) (upd H p (.lst (cutV xs lo hi)))
theorem zUh:SlR X (rSlL X.K):=by
 intro pins s σ H x v vl vu lo hi sl Q I rx hs pl pu h
 obtain⟨a,xs,rfl,hx,q⟩:=h
 cases rx
 obtain⟨its,r,ht,hz⟩:=I.list hx
 have hlen:=r.length
 refine⟨"list",_,slot_list_getitem.lookup,ht.isList.typeIs,?_⟩
 refine wpAny_getItem_list_slice ht.isList hs pl pu .none (by simp) ?_ (by rw[xv] <;> lia)
 rw[zHz,<- hlen]
 refine⟨.ref s.heap.objs.size,_,I.laid (t':=s.toks) (o:=.lst (cutV xs lo hi)) (fun b ob q=>xj _ q) (xh _) ?_,rfl,q _ (I.hok.fresh (xh _))⟩
 exact⟨xH (zGn xs lo hi) hz,_,0,(r.drop (HT.sIx xs.length 0 lo)).take (HT.sIx xs.length xs.length hi-HT.sIx xs.length 0 lo),xu _ rfl⟩
theorem zJi:zCb X (.builtin "len") (fun xs H Q=>∃p ys,xs=[.ref p]/\(SqL X.K H p ys\/SqT X.K H p ys)/\Q (.int ys.length) H):=by
 intro pins s σ H xs us Q I r h
 obtain⟨p,ys,rfl,hq,q⟩:=h
 obtain⟨u,rfl,rx⟩:=vals1 r
 cases rx
 have hn:=line63
 rcases hq with hq|hq
 ·obtain⟨its,r',pl,hz⟩:=I.list hq
  have hlen:=r'.length
  exact Calls.call_len_list pl.isList (by simp only[xv] <;> lia) ⟨.int ys.length,H,I.tok _,⟨s.toks+1,by rw[xv,hlen]⟩,q⟩
 ·obtain⟨its,r',pl,hz⟩:=I.tuple hq
  have hlen:=r'.length
  exact len_tuple pl (by simp only[xv] <;> lia) ⟨.int ys.length,H,I.tok _,⟨s.toks+1,by rw[xv,hlen]⟩,q⟩
theorem zJh:zCb X (.type "list") (fun xs H Q=>∃p ys,xs=[.ref p]/\(SqL X.K H p ys\/SqT X.K H p ys)/\∀l,H l=none->Q (.ref l) (upd H l (.lst ys))):=by
 intro pins s σ H xs us Q I r h
 obtain⟨p,ys,rfl,hq,q⟩:=h
 obtain⟨u,rfl,rx⟩:=vals1 r
 cases rx
 have fin:∀(its:List Value),Vals ys its->ys.length<=sizeLine->∀(h':Heap) (c':Nat),(∀b o',s.heap.get? b=some o'->h'.get? b=some o')->
   h'.get? s.heap.objs.size=some { cls:=.type "list",dict:=none,data:=.seq its.toArray c',slots:=#[] }->EP X pins σ Q (.ref s.heap.objs.size) { s with heap:=h' }:=fun its r' hz h' c' kp e=>
  ⟨.ref s.heap.objs.size,_,I.laid (t':=s.toks) kp (xh _) (show ObjOk X.prog X.w _ h' _ (.lst ys)from⟨hz,its,c',r',e⟩),rfl,q _ (I.hok.fresh (xh _))⟩
 rcases hq with hq|hq
 ·obtain⟨its,r',pl,hz⟩:=I.list hq
  have hlen:=r'.length
  obtain⟨o,ho,hc,n,hd⟩:=pl.isList
  exact call_list_seq p (.inl rfl) ho hc hd (fun h' c' kp e=>fin its r' hz h' c' kp e) (by simp only[xv] <;> lia)
 ·obtain⟨its,r',pl,hz⟩:=I.tuple hq
  have hlen:=r'.length
  obtain⟨o,ho,hc,n,hd⟩:=pl
  exact call_list_seq p (.inr rfl) ho hc hd (fun h' c' kp e=>fin its r' hz h' c' kp e) (by simp only[xv] <;> lia)
theorem zD5:zCb X (.type "tuple") (fun xs H Q=>∃p ys,xs=[.ref p]/\((SqL X.K H p ys/\∀l,H l=none->Q (.ref l) (upd H l (.tup ys)))\/(SqT X.K H p ys/\Q (.ref p) H))):=by
 intro pins s σ H xs us Q I r h
 obtain⟨p,ys,rfl,h⟩:=h
 obtain⟨u,rfl,rx⟩:=vals1 r
 cases rx
 rcases h with⟨hq,q⟩|⟨hq,q⟩
 ·obtain⟨its,r',pl,hz⟩:=I.list hq
  have hlen:=r'.length
  refine call_tuple_list pl.isList (fun h' kp=>?_) (by simp only[xv] <;> lia)
  have I1:Inv X pins σ H { s with heap:=h' }:=I.kept (t':=s.toks) kp
  have I2:Inv X pins σ (upd H h'.objs.size (.tup ys)) { s with heap:=h'.push { cls:=.type "tuple",data:=.seq its.toArray } }:=
   I1.laid (t':=s.toks) (fun b o e=>xj _ e) (xh _) (show ObjOk X.prog X.w _ _ _ (.tup ys)from⟨hz,its,r',IsTup.new _ _⟩)
  exact⟨.ref h'.objs.size,_,I2,rfl,q _ (I1.hok.fresh (xh _))⟩
 ·obtain⟨its,r',pl,hz⟩:=I.tuple hq
  exact call_tuple_same pl ⟨.ref p,H,I,rfl,q⟩
noncomputable def tyV (K:PySem.W.Frag) (T:String) (x:V) (H:Hp):Prop:=match x with
 | .str _=>T="str"
 | .int _=>T="int"
 | .ref p=>(T="list"/\∃xs,SqL K H p xs)\/(T="tuple"/\∃o,K.lookup p=some o/\o.cls=.type "tuple"/\o.dict=none) \/
   (T="dict"/\((∃kvs,H p=some (.dK kvs))\/∃kvs,H p=some (.dT kvs)))\/(T="set"/\∃S n,H p=some (.set S n))
 | _=>False
theorem zT3 {pins:List (Addr × Obj)}{σ:St}{H:Hp}{s:Shared}{T:String}{x:V}{v:Value}(I:Inv X pins σ H s) (r:RelV x v) (ty:tyV X.K T x H):
  s.TypeIs v T/\∀a,v=.ref a->∃ob,s.heap.get? a=some ob/\ob.dict=none:=by
 cases x with
 | str z=>
  obtain⟨t,rfl⟩:=r
  cases(show T="str" from ty)
  exact⟨typeIs_str s z t,fun _ e=>nomatch e⟩
 | int i=>
  obtain⟨t,rfl⟩:=r
  cases(show T="int" from ty)
  exact⟨typeIs_int s i t,fun _ e=>nomatch e⟩
 | ref p=>
  cases r
  rcases ty with⟨rfl,xs,hq⟩|⟨rfl,o,hk,hc,hd⟩|⟨rfl,hk⟩|⟨rfl,S,n,hk⟩
  ·obtain⟨its,_,pl,_⟩:=I.list hq
   refine⟨pl.isList.typeIs,fun a e=>?_⟩
   cases e
   obtain⟨o,n,e,c,hd,_⟩:=pl
   exact⟨o,e,hd⟩
  ·refine⟨⟨o,I.kIn p o hk,hc⟩,fun a e=>?_⟩
   cases e
   exact⟨o,I.kIn _ o hk,hd⟩
  ·have z:∃o,s.heap.get? p=some o/\o.ExactDict:=by
    rcases hk with⟨kvs,hk⟩|⟨kvs,hk⟩
    ·obtain⟨_,_,_,_,o,_,_,e,ex,_⟩:=I.hok p _ hk
     exact⟨o,e,ex⟩
    ·obtain⟨_,_,_,_,o,_,_,e,ex,_⟩:=I.hok p _ hk
     exact⟨o,e,ex⟩
   obtain⟨o,e,ex⟩:=z
   refine⟨⟨o,e,ex.1⟩,fun a e2=>?_⟩
   cases e2
   exact⟨o,e,ex.2.1⟩
  ·obtain⟨o,_,_,_,e,ex,_⟩:=I.hok p _ hk
   refine⟨⟨o,e,ex.1⟩,fun a e2=>?_⟩
   cases e2
   exact⟨o,e,ex.2.1⟩
 | _=>exact False.elim ty
noncomputable def tBM0 (K:PySem.W.Frag) (T:String) (r:V->List V->Hp->VK->Prop) (to:TE):TE:=fun σ H Q=>to σ H fun x H1=>tyV K T x H1/\r x [] H1 Q
noncomputable def tBM (K:PySem.W.Frag) (T:String) (r:V->List V->Hp->VK->Prop) (to:TE) (t:TA):TE:=fun σ H Q=>to σ H fun x H1=>tyV K T x H1/\t σ H1 fun xs H2=>r x xs H2 Q
variable {o e:Expr}{es:List Expr}{to:TE}{t:TA}{name:Str}{apos cpos:Pos}{T id:String}{r:V->List V->Hp->VK->Prop}
theorem zYj (pa:PlainAttrs T) (slot:Slot T name id) (hty:typeOf (.builtin id)=pure (.type "method_descriptor")) (hm:MtR X id r) (ho:PE X o to)
  (hbase:attributeBase o name X.env (eval o X.env)=eval o X.env:=by rfl) (hline:(apos.endLine == cpos.line)=true:=by rfl):PE X (.Call (.Attribute o name apos) [] [] cpos) (tBM0 X.K T r to):=by
 intro pins s σ H Q I h
 refine wpAny_Call_method0_late hbase hline (thn (ho pins s σ H _ I h) fun v s1 hq1=>?_)
 obtain⟨x,H1,I1,r1,ty,q1⟩:=hq1
 obtain⟨h1,h2⟩:=zT3 I1 r1 ty
 exact⟨T,id,pa,slot,hty,h1,h2,Calls.callWith_builtin rfl (PySem.evalArgs_none (hm pins s1 σ H1 x [] v [] Q I1 r1 .nil q1))⟩
theorem yAk (pa:PlainAttrs T) (slot:Slot T name id) (hty:typeOf (.builtin id)=pure (.type "method_descriptor")) (hm:MtR X id r) (ho:PE X o to) (ha:PA X (e::es) t)
  (hbase:attributeBase o name X.env (eval o X.env)=eval o X.env:=by rfl)
  (hfew:((backTo cpos (starEach (e::es) X.env)).all (fun x=>!x.1) && (backToKw cpos (keywordEach [] X.env)).all (fun x=>x.1.isSome)
   && decide ((e::es).length+([]:List Keyword).length+(if([]:List Keyword).isEmpty then 0 else 1)<30))=true:=by rfl)
  (hline:(apos.endLine == cpos.line)=true:=by rfl) (hs:starEach (e::es) X.env=(false,eval e X.env)::starEach es X.env:=by rfl) (hplain:(backTo cpos (starEach es X.env)).any (·.1)=false:=by rfl):
  PE X (.Call (.Attribute o name apos) (e::es) [] cpos) (tBM X.K T r to t):=by
 intro pins s σ H Q I h
 refine wpAny_Call_method_late hbase hfew hline rfl (thn (ho pins s σ H _ I h) fun v s1 hq1=>?_)
 obtain⟨x,H1,I1,r1,ty,q1⟩:=hq1
 obtain⟨h1,h2⟩:=zT3 I1 r1 ty
 refine⟨T,id,pa,slot,hty,h1,h2,?_⟩
 have hA:=ha cpos pins s1 σ H1 _ I1 q1
 rw[hs]at hA ⊢
 refine Calls.callWith_builtin (by show(false || (backTo cpos (starEach es X.env)).any (·.1))=false;rw[hplain] <;> rfl) (Calls.evalArgs_plain ?_)
 exact thn hA fun us s2 hz0=>by obtain⟨vs,H2,I2,r2,q2⟩:=hz0;exact hm pins s2 σ H2 x vs v us Q I2 r1 r2 q2
end
end L2
namespace L2
open PySem PySem.Spec PyProof.Rows
noncomputable def MtM (X:Cx) (id:String) (r:V->List V->Hp->VK->Prop):Prop:=
 ∀(pins:List (Addr × Obj)) (s:Shared) (σ:St) (H:Hp) (x:V) (xs:List V) (v:Value) (us:List Value) (Q:VK),Inv X pins σ H s->RelV x v->Vals xs us->r x xs H Q->
  wpAny (model X.prog X.w) X.A (call (.builtin id) (v::us)) (EP X pins σ Q) X.xe s
theorem Vals.one:∀{x:V}{us:List Value},Vals [x] us->∃u,us=[u]/\RelV x u
 | _,_,.cons r .nil=>⟨_,rfl,r⟩
theorem Vals.zero:∀{us:List Value},Vals [] us->us=[]
 | _,.nil=>rfl
theorem Vals.dropLast {xs:List V}{us:List Value}(h:Vals xs us):Vals xs.dropLast us.dropLast:=by
 induction h with
 | nil=>exact .nil
 | cons r t ih=>
  cases t with
  | nil=>exact .nil
  | cons q t'=>exact .cons r ih
theorem Vals.eraseIdx:∀{xs:List V}{us:List Value}(i:Nat),Vals xs us->Vals (xs.eraseIdx i) (us.eraseIdx i)
 | _,_,_,.nil=>.nil
 | _,_,0,.cons _ t=>t
 | _,_,i+1,.cons r t=>.cons r (Vals.eraseIdx i t)
theorem Vals.reverse {xs:List V}{us:List Value}(h:Vals xs us):Vals xs.reverse us.reverse:=by
 induction h with
 | nil=>exact .nil
 | cons r t ih=>rw[u9,u9];exact Vals.append ih (.cons r .nil)
theorem zN7 {α:Type}(l:List α):l.eraseIdx (l.length-1)=l.dropLast:=by
 induction l with
 | nil=>rfl
 | cons a r ih=>
  cases r with
  | nil=>rfl
  | cons b r=>
   have e:(a::b::r).length-1=((b::r).length-1)+1:=by
    have h1:(a::b::r).length=r.length+2:=rfl
    have h2:(b::r).length=r.length+1:=rfl
    lia
   rw[e,List.eraseIdx_cons_succ,ih]
   all_goals rfl
section
variable {X:Cx}{pins:List (Addr × Obj)}{σ:St}{H:Hp}{s:Shared}{l b:Addr}{xs ys zs:List V}
theorem Inv.lset {its its':List Value}{n:Nat}{f:Array Value->Array Value}{t':Nat}(I:Inv X pins σ H s) (hH:H l=some (.lst xs))
  (e:s.heap.get? l=some { cls:=.type "list",data:=.seq its.toArray n }) (hf:f its.toArray=its'.toArray) (hv:Vals ys its') (hz:ys.length<=sizeLine):
  Inv X pins σ (upd H l (.lst ys)) { s with heap:=s.heap.update l (Obj.mapSeq f),toks:=t' }:=by
 have q:=PySem.IsL.update e f
 rw[hf]at q
 refine I.write (x:=l) (e:=l) (by rw[hH];exact trivial) (.inl rfl) (fun b' u hb hu=>(uq s.heap (Obj.mapSeq f) (xo hb)).trans hu) ⟨_,q⟩ ?_
 exact⟨hz,its',_,hv,q⟩
theorem Inv.lnew {its:List Value}{t':Nat}(I:Inv X pins σ H s) (hv:Vals ys its) (hz:ys.length<=sizeLine):
  Inv X pins σ (upd H s.heap.objs.size (.lst ys)) { s with heap:=s.heap.push { cls:=.type "list",data:=.seq its.toArray },toks:=t' }:=
 I.laid (fun _ _ q=>xj _ q) (xh _) ⟨hz,its,0,hv,xu _ rfl⟩
theorem Inv.fresh (I:Inv X pins σ H s):H s.heap.objs.size=none:=I.hok.fresh (xh _)
theorem Inv.lstM (I:Inv X pins σ H s) (hH:H l=some (.lst xs)):xs.length<=sizeLine/\∃(its:List Value) (n:Nat),Vals xs its/\xs.length=its.length/\s.heap.get? l=some { cls:=.type "list",data:=.seq its.toArray n }:=by
 obtain⟨z,its,n,r,e⟩:=I.hok l _ hH
 exact⟨z,its,n,r,r.length,e⟩
end
section
variable {X:Cx}
noncomputable def zUr:V->List V->Hp->VK->Prop:=fun x vs H Q=>∃l xs y,x=.ref l/\vs=[y]/\H l=some (.lst xs)/\xs.length<sizeLine/\Q .non (upd H l (.lst (xs++[y])))
theorem zP8:MtM X "list.append" zUr:=by
 intro pins s σ H x vs v us Q I rx rv h
 obtain⟨l,xs,y,rfl,rfl,hH,hz,q⟩:=h
 cases rx
 obtain⟨u,rfl,ru⟩:=rv.one
 obtain⟨z,its,n,r,hl,e⟩:=I.lstM hH
 refine call_meets F.slot_list_append ⟨_,e,rfl⟩ F.entry_list_append (F.args_list_append_2 _ _) (PySem.list_append l its.toArray n u (by rw[xv];lia)) ⟨e,?_⟩
 refine⟨.non,_,I.lset (its':=its++[u]) hH e (by simp) (r.append (.cons ru .nil)) ?_,rfl,q⟩
 rw[vD,List.length_singleton]
 lia
noncomputable def rPop:V->List V->Hp->VK->Prop:=fun x vs H Q=>∃l xs y,x=.ref l/\vs=[]/\H l=some (.lst xs)/\xs[xs.length-1]?=some y/\Q y (upd H l (.lst xs.dropLast))
theorem zZ0:MtM X "list.pop" rPop:=by
 intro pins s σ H x vs v us Q I rx rv h
 obtain⟨l,xs,y,rfl,rfl,hH,hy,q⟩:=h
 cases rx
 have hus:=rv.zero
 subst hus
 obtain⟨z,its,n,r,hl,e⟩:=I.lstM hH
 obtain⟨u,hu,ru⟩:=r.get hy
 have hy':its.toArray[its.toArray.size-1]?=some u:=by
  show its.toArray[its.length-1]?=some u
  rw[<- yr,<- hl]
  exact hu
 refine call_meets F.slot_list_pop ⟨_,e,rfl⟩ F.entry_list_pop (F.args_list_pop_1 _) (MeetsSeq.list_pop_last l its.toArray n u hy' (by rw[xv];lia)) ⟨e,?_⟩
 refine⟨y,_,I.lset (its':=its.dropLast) hH e ?_ r.dropLast ?_,ru,q⟩
 ·show its.toArray.eraseIdxIfInBounds (its.toArray.size-1)=its.dropLast.toArray
  rw[xv,List.eraseIdxIfInBounds_toArray,zN7]
 ·rw[List.length_dropLast]
  lia
theorem len_rep {α:Type}(xs:List α) (k:Nat):(List.replicate k xs).flatten.length=k*xs.length:=by
 induction k with
 | zero=>simp
 | succ k ih=>rw[ur,List.flatten_cons,vD,ih,Nat.succ_mul,Nat.add_comm]
end
end L2
namespace Att
open PySem PySem.W PySem.Calls PyProof.Rows
theorem zGh {P:Params}{h:Heap}:∀(ns:List Int) (vs:List Value),WellAll P h vs (ns.map WData.int)->IntsAre vs ns:=by
 intro ns
 induction ns with
 | nil=>
  intro vs w
  rw[vE]at w
  cases w
  exact .nil
 | cons n ns ih=>
  intro vs w
  rw[xt]at w
  cases w with
  | cons a b=>
   cases a
   exact .cons _ _ (ih _ b)
theorem zO5 {l:OpenLaw}{n:Nat}(hn:l.most=some n) {P:Params}{h:Heap}{args:List WData}{vals:List Value}
  (hpre:l.row.toRowW.claim.pre args=true) (hwl:WellAll P h vals args):
  ∃a vs ns,vals=[Value.ref a]/\args=[WData.list (ns.map WData.int)]/\h.get? a=some { cls:=.type "list",data:=.seq vs.toArray }/\IntsAre vs ns/\ns.length<=n:=by
 have hsh:WShape.hasAll [] args [.list .int]=true:=(pre_splitW hpre).1
 have hc:l.pre.holds [] { args:=args }=true:=(pre_splitW hpre).2
 obtain⟨d,r,rfl,h1,h2⟩:=hasAllW_cons hsh
 obtain rfl:=hasAllW_nil h2
 obtain⟨xs,rfl,h3⟩:=hasW_list h1
 obtain⟨ns,rfl⟩:=items_int h3
 have hlen:ns.length<=n:=by
  unfold OpenLaw.pre at hc
  have h4:(WTm.not (.lt (.lit (.int (n:Int))) (.len (.arg 0)))).holds [] { args:=[.list (ns.map .int)] }=true:=by
   have h4:=(holds_andW hc).1
   rw[hn]at h4
   exact h4
  have h5:=condW_of h4 (w_not (w_lt w_lit (w_len_list (w_arg rfl))))
  rw[xn]at h5
  refine uu fun q=>?_
  have q':(n:Int)<((ns.length:Nat):Int):=by nofun
  first
   | (rw[xw q']at h5;exact absurd h5 (by decide))
   | (simp at h5;lia)
 cases hwl with
 | cons w1 w2=>
  cases w2
  cases w1 with
  | list ho hall=>exact⟨_,_,ns,rfl,rfl,ho,zGh ns _ hall,hlen⟩
theorem zOh (l:OpenLaw) (args:List WData):l.row.toRowW.claim.post args (.bool true) args=true:=
 postW_of (r:=l.row.toRowW) (X:=(true == true))
  (show WShape.has [] (.bool true) .bool=true by first|rfl|decide|simp[WShape.has,WShape.arms,WShape.armsAll])
  (show(WTm.eq .res (.lit (.bool true))).value [] { args:=args,res:=some (.bool true),after:=args }=some (.bool (true == true))from w_eq_bool (w_res rfl) w_lit) rfl
theorem attach_call {l:OpenLaw}{n:Nat}{q:Program}{loose:List Str}{XP:(Str->Option Value)->Heap->Prop}{YP:World->Heap->Prop}{d:DefRec}
  (hn:l.most=some n) (hdf:d.params.defaults=[])
  (call:∀(w:World) (s₀ s₁:Shared) (mg mb:Str->Option Value) (fa:Addr) (o:Obj) (pm cd doc:Value) (a:Addr) (vs:List Value) (ns:List Int),
   Ground q loose [] XP w s₀ mg mb s₁.heap->YP w s₁.heap->
   s₁.heap.get? fa=some o->o.data=.func (docDef d.name d.params d.body d.scope pm cd doc)->s₁.heap.CodeRec cd d.name->mg d.name=some (.ref fa)->
   s₁.heap.get? a=some { cls:=.type "list",data:=.seq vs.toArray }->IntsAre vs ns->ns.length<=n->s₁.gens=#[]->
   codeAny (model l.prog w) callerA (.call (.ref fa) ⟨[.ref a],[]⟩) (fun r s'=>r=.ok (.ret (.bool true))/\OldK s₁.heap s'.heap/\s'.os=s₁.os/\AllBare s'.gens) s₁):
  WalkO q loose XP YP l.row.toRowW d [] (fun f vs=>PySem.call f vs):=by
 intro w s₀ s₁ mg mb G Y fa o pm cd doc dV kV ho hd hcd hD hmg hg args vals as hpre hlay hrd hwl hlo
 obtain rfl:dV=.none:=Dflts.none hD hdf
 obtain rfl:kV=.none:=Dflts.noKw hD
 obtain⟨a,vs,ns,rfl,rfl,hobj,hints,hlen⟩:=zO5 hn hpre hwl
 refine enter_call (codeAny_mono (call w s₀ s₁ mg mb fa o pm cd doc a vs ns G Y ho (fd_plain hd) hcd hmg hobj hints hlen hg) fun r s' hq=>?_)
 obtain⟨rfl,h2,h3,h4⟩:=hq
 exact⟨.inl ⟨.bool true,.bool true,[],rfl,fun _=>rfl,.bool true,zOh l _,fun _=>⟨List.Pairwise.nil,fun _ hm=>(nomatch hm)⟩⟩,h2,h3,h4⟩
end Att
namespace L2
open PySem PySem.Spec PyProof.Rows
theorem zIq:∀{vs:List Value}{ns:List Int},IntsAre vs ns->Vals (ns.map V.int) vs
 | _,_,.nil=>.nil
 | _,_,.cons n t h=>.cons ⟨t,rfl⟩ (zIq h)
noncomputable def Only (H:Hp):Prop:=∀b,H b=none\/∃o xs,H b=some (.frz o (.lst xs))
theorem law_call {P:Program}{w:World}{K:PySem.W.Frag}{mg mb:Str->Option Value}{CX:CXT}{k:Nat}{fa a:Addr}{fd:FuncData}{x:Str}{sp:Sp}{s₁:Shared}{vs:List Value}{ns:List Int}
  (KX:K.In s₁.heap) (hns:s₁.heap.Ns mainGlobals mg) (hb:s₁.heap.Ns builtinsNs mb) (hbb:∀x:Str,x≠"__name__"->mb x=bootBuiltins x) (hlim:s₁.heap.NoLimit) (hg:s₁.gens=#[])
  (ha:s₁.heap.get? a=some { cls:=.type "list",data:=.seq vs.toArray }) (hi:IntsAre vs ns) (hl:ns.length<=sizeLine) (hr:Room k callerA)
  (F:∀base:Heap,K.In base->base.Ns mainGlobals mg->FnOk P w K mg base CX k fa fd [x] sp) (hbind:∀(s:Shared) (u:Value),BindsTo s fd ⟨[u],[]⟩ [(x,u)])
  (hsp:∀H:Hp,Only H->SqL K H a (ns.map V.int)->sp [.ref a] H (fun v _=>v=.bl true) fun _ _ _=>False)
  (hCX:∀H e s',CX [] H s₁ (fun _ _ _=>False) e s'->False):
  codeAny (model P w) callerA (.call (.ref fa) ⟨[.ref a],[]⟩) (fun r s'=>r=.ok (.ret (.bool true))/\OldK s₁.heap s'.heap/\s'.os=s₁.os/\AllBare s'.gens) s₁:=by
 have rv:=zIq hi
 have lenV:=hi.length
 -- from an abstract heap in which nothing but the script may be tracked
 have core:∀H:Hp,Only H->SqL K H a (ns.map V.int)->HOk P w H s₁.heap->(∀b,H b≠none->b=a)->(H a≠none->K.lookup a=none)->
   codeAny (model P w) callerA (.call (.ref fa) ⟨[.ref a],[]⟩) (fun r s'=>r=.ok (.ret (.bool true))/\OldK s₁.heap s'.heap/\s'.os=s₁.os/\AllBare s'.gens) s₁:=by
  intro H hO hS hok hA hK
  have zGs:∀{b:Addr}{o:Obj},s₁.heap.get? b=some o->H b=none->(hidT s₁.heap H).get? b=some o:=fun e n=>zSf e n
  have noA:∀{b:Addr}{o:Obj}{es:Array DictEntry}{ep:Nat},s₁.heap.get? b=some o->o.data=.dict es ep->H b=none:=fun {b o es ep} e d=>by
   cases q:H b with
   | none=>rfl
   | some u=>
    have e':b=a:=hA b (by rw[q];simp)
    subst e'
    rw[ha]at e;cases e
    have d':Data.seq vs.toArray _=Data.dict es ep:=d
    cases d'
  have nsK:∀{b:Addr}{m:Str->Option Value},s₁.heap.Ns b m->(hidT s₁.heap H).Ns b m:=fun {b m} ⟨o,es,ep,e,d,r⟩=>⟨o,es,ep,zGs e (noA e d),d,r⟩
  have hKb:K.In (hidT s₁.heap H):=fun b o e=>zGs (KX b o e) (by
   cases q:H b with
   | none=>rfl
   | some u=>
    have e':b=a:=hA b (by rw[q];simp)
    subst e'
    rw[hK (by rw[q];simp)]at e;cases e)
  have hM:Mod K mg (hidT s₁.heap H):=⟨hKb,nsK hns,⟨mb,nsK hb,hbb⟩,let ⟨mc,h1,h2⟩:=hlim;⟨mc,nsK h1,h2⟩⟩
  have e0:Env0 P w K mg (hidT s₁.heap H) callerA [] s₁ H:=⟨rfl,hM,fun b o e=>zVr e,Nat.le_of_eq (zPv _ _),trivial,fun b hb=>absurd (show b∈([]:List Addr)from hb) (by simp),hok,.of_eq hg⟩
  refine codeAny_mono ((F _ hKb (nsK hns)).run callerA [] s₁ H ⟨[.ref a],[]⟩ [.ref a] [.ref a] _ _ hr e0 (hbind s₁ (.ref a)) (.cons rfl .nil) (hsp H hO hS)) fun r s' h=>?_
  cases r with
  | error e=>exact(hCX H e s' h).elim
  | ok fl=>
   cases fl with
   | next=>exact False.elim h
   | brk=>exact False.elim h
   | cont=>exact False.elim h
   | ret u=>
    obtain⟨v,H',os,bare,un,hok',r',q⟩:=h
    have q':v=.bl true:=q
    subst q'
    obtain rfl:u=Value.bool true:=r'
    refine⟨rfl,OldK.of_keep fun b o e=>?_,os,bare⟩
    cases q:H b with
    | none=>exact un.keep b o e q (by intro z;exact absurd (show b∈([]:List Addr)from z) (by simp)) (by simp)
    | some u=>
     rcases hO b with z|⟨ob,xs,z⟩
     ·rw[q]at z;cases z
     ·have z2:=un.frzs b ob _ z
      obtain⟨e1,_⟩:=hok b _ z
      obtain⟨e2,_⟩:=hok' b _ z2
      rw[e]at e1;cases e1
      exact e2
 cases hk:K.lookup a with
 | some o=>
  -- the script is one of the module's own objects
  have e:=KX a o hk
  rw[ha]at e
  cases e
  refine core (fun _=>none) (fun _=>.inl rfl) (.inr ⟨_,vs.toArray,_,hk,rfl,rfl,rfl,by rw[xv,lenV];exact hl,by simpa using rv⟩) (fun b u z=>by have z':(none:Option HO)=some u:=z;cases z') (fun b z=>absurd rfl z) fun z=>absurd rfl z
 | none=>
  refine core (fun b=>if b=a then some (.frz { cls:=.type "list",data:=.seq vs.toArray } (.lst (ns.map V.int)))else none) (fun b=>?_) (.inl (.inr ⟨{ cls:=.type "list",data:=.seq vs.toArray },xc rfl⟩)) (fun b u z=>?_) (fun b z=>?_) fun _=>hk
  ·by_cases hb:b=a
   ·exact .inr ⟨_,_,xc hb⟩
   ·exact .inl (xf hb)
  ·by_cases hb:b=a
   ·have z':=(xc hb).symm.trans z
    cases z'
    subst hb
    exact⟨ha,by rw[xn];exact hl,vs,_,rv,ha⟩
   ·have z':=(xf hb).symm.trans z
    cases z'
  ·by_cases hb:b=a
   ·exact hb
   ·exact absurd (xf hb) z
end L2
namespace L2
open PySem PySem.Spec PyProof.Rows
theorem walk_of {l:PySem.W.OpenLaw}{n k:Nat}{q:Program}{loose:List Str}{XP:(Str->Option Value)->Heap->Prop}{YP:World->Heap->Prop}{d:DefRec}{K:Params->PySem.W.Frag}{CX:World->CXT}{sp:World->Sp}{x:Str}
  (hn:l.most=some n) (hn2:n<=sizeLine) (hdf:d.params.defaults=[]) (hr:Room k callerA)
  (hY:∀(w:World) (h:Heap),YP w h->(K w.params).In h)
  (F:∀(w:World) (mg:Str->Option Value) (fa:Addr) (h:Heap),(K w.params).In h->h.Ns mainGlobals mg->mg d.name=some (.ref fa)->
   ∃fd:FuncData,(∀(s:Shared) (u:Value),BindsTo s fd ⟨[u],[]⟩ [(x,u)]) /\
    ∀base:Heap,(K w.params).In base->base.Ns mainGlobals mg->FnOk l.prog w (K w.params) mg base (CX w) k fa fd [x] (sp w))
  (hsp:∀(w:World) (H:Hp) (a:Addr) (ns:List Int),ns.length<=n->Only H->SqL (K w.params) H a (ns.map V.int)->sp w [.ref a] H (fun v _=>v=.bl true) fun _ _ _=>False)
  (hCX:∀(w:World) (H:Hp) (s:Shared) (e:Value) (s':Shared),CX w [] H s (fun _ _ _=>False) e s'->False):
  PySem.W.WalkO q loose XP YP l.row.toRowW d [] (fun f vs=>PySem.call f vs):=by
 refine Att.attach_call hn hdf fun w s₀ s₁ mg mb fa o pm cd doc a vs ns G Y ho hd hcd hmg hobj hints hlen hg=>?_
 have KX:=hY w _ Y
 obtain⟨fd,hb,hF⟩:=F w mg fa _ KX G.T.g hmg
 exact law_call KX G.T.g G.T.b G.T.builtins G.T.nolimit hg hobj hints (xH hlen hn2) hr hF hb (fun H hO hS=>hsp w H a ns hlen hO hS) fun H e s'=>hCX w H s₁ e s'
end L2
namespace L2
open PySem PySem.Spec PyProof.Rows
noncomputable def zFd (s:Stmt):Arguments:=match s with
 | .FunctionDef _ a _ _ _ _ _ _ _ _=>a
 | _=>{ posonlyargs:=[],args:=[],vararg:=none,kwonlyargs:=[],kw_defaults:=[],kwarg:=none,defaults:=[] }
noncomputable def zD4 (s:Stmt):List Stmt:=match s with
 | .FunctionDef _ _ b _ _ _ _ _ _ _=>b
 | _=>[]
noncomputable def zA6 (s:Stmt):Scope:=match s with
 | .FunctionDef _ _ _ _ _ _ sc _ _ _=>sc
 | _=>{ kind:=.function,names:=[],isGenerator:=false,isCoroutine:=false }
noncomputable abbrev CX0:CXT:=fun _ _ _ _ _ _=>False
noncomputable abbrev E0:XK:=fun _ _ _=>False
theorem pass0 {X:Cx}:Passes CX0 X E0:=fun _ _ _ _ _ _ _ h=>h.elim
structure Fun (K:PySem.W.Frag) (x qual:Str) (st:Stmt) (f:Addr) (fd:FuncData):Prop where
 ex:∃(oc:Value) (od:Option Addr) (kV doc pm:Value) (an:Option Addr) (cdv ct:Value) (osl:Array (Option Value)),
  fd=PySem.W.fnOf x qual (zFd st) (zD4 st) (zA6 st) .none kV doc pm an cdv ct/\K.lookup f=some ⟨oc,od,.func fd,osl⟩/\PySem.W.codeIn K cdv qual=true
 kp:PySem.W.keepIn K (.ref f)=true
section
variable {P:Program}{w:World}{K:PySem.W.Frag}{mg:Str->Option Value}{base:Heap}
theorem Fun.ok {x qual:Str}{st:Stmt}{f:Addr}{fd:FuncData}{N ps:List Str}{k:Nat}{sp:Sp}(F:Fun K x qual st f fd) (S:zAk N ps (zA6 st)) (len:∀vs H Q E,sp vs H Q E->vs.length=ps.length)
  (hbody:∀(cdv:Value) (A:Around) (outer:List Env) (s:Shared) (H:Hp) (vs:List V) (Q:VK) (E:XK),Room k (A.deeper (envOfC qual (zA6 st) s.heap.objs.size f cdv))->sp vs H Q E->
   ∃t,PSs (cxOf CX0 P w K mg base N qual (zA6 st) f cdv A outer s H E).nox (zD4 st) t/\t { nx:=fun _ H'=>Q .non H',rt:=Q } (start N vs) H):FnOk P w K mg base CX0 (k+1) f fd ps sp:=by
 obtain⟨oc,od,kV,doc,pm,an,cdv,ct,osl,rfl,lk,hcd⟩:=F.ex
 refine yAu lk hcd S len fun A outer s H vs Q E hr hsp=>?_
 obtain⟨t,h,q⟩:=hbody cdv A outer s H vs Q E hr hsp
 exact⟨t,h.nox,q⟩
theorem Fun.binds {x qual:Str}{st:Stmt}{f:Addr}{fd:FuncData}{ps:List Str}(F:Fun K x qual st f fd)
  (h:∀(kV doc pm:Value) (an:Option Addr) (cdv ct:Value) (us:List Value),us.length=ps.length->bindArgs (PySem.W.fnOf x qual (zFd st) (zD4 st) (zA6 st) .none kV doc pm an cdv ct) ⟨us,[]⟩=pure (ps.zip us)):Binds K fd ps []:=by
 obtain⟨oc,od,kV,doc,pm,an,cdv,ct,osl,rfl,lk,hcd⟩:=F.ex
 exact .all (h kV doc pm an cdv ct)
theorem zAx {x qual:Str}{st:Stmt}{f:Addr}{oc:Value}{od an:Option Addr}{osl:Array (Option Value)}{kV doc pm cdv ct:Value}(l:K.lookup f=some ⟨oc,od,.func (PySem.W.fnOf x qual (zFd st) (zD4 st) (zA6 st) .none kV doc pm an cdv ct),osl⟩)
  (c:PySem.W.codeIn K cdv qual=true) (k:PySem.W.keepIn K (.ref f)=true):Fun K x qual st f (PySem.W.fnOf x qual (zFd st) (zD4 st) (zA6 st) .none kV doc pm an cdv ct):=⟨⟨oc,od,kV,doc,pm,an,cdv,ct,osl,rfl,l,c⟩,k⟩
end
theorem zBp {A:Around}{k:Nat}(hr:Room k A):A.units+1<cLine:=ya (Nat.add_le_add_left (by decide:1<=64) _) hr.units
section
variable {X:Cx}
theorem pv (i:Nat) {x:Str}{pos:Pos}(hN:X.N[i]?=some x:=by rfl) (hv:Vis X.env.scope x:=by first|exact Or.inl rfl|exact Or.inr (Or.inl rfl)|exact Or.inr (Or.inr rfl)) (hd:(x == ("__debug__":Str))=false:=by decide)
  (hcd:(x == ("__classdict__":Str))=false:=by decide):PE X (.Name x pos) (tVar i):=zY9 hN hv hd hcd
end
noncomputable def Same (H H':Hp):Prop:=∀b o,H b=some o->H' b=some o
theorem Same.seq {K:PySem.W.Frag}{H H':Hp}{a:Addr}{xs:List V}(e:Same H H') (h:SqL K H a xs):SqL K H' a xs:=by
 rcases h with(h|⟨o,h⟩)|h
 ·exact .inl (.inl (e _ _ h))
 ·exact .inl (.inr ⟨o,e _ _ h⟩)
 ·exact .inr h
end L2
namespace L2
open PySem PySem.Spec PyProof.Rows
section
variable {prog:Program}{w:World}{A:Around}{R:Result->Shared->Prop}{s:Shared}
theorem zJf {elt target iter:Expr}{ifs:List Expr}{scope:Scope}{pos:Pos}{it acc:Value}{env:Env}(I:Nat->Shared->Prop)
  (turn:∀n s,I n s->wpAny (model prog w) A (pyNext it) (fun r s₁=>match r with
   | none=>R (.ok .next) s₁
   | some v=>wpAny (model prog w) A (letOwnedTupleGo target it v) (fun _ s₂=>wpAny (model prog w) A (assign target env v) (fun _ s₂=>
     wpAny (model prog w) A (forIn ifs true fun c r=>if r=true then do let ok <- isTrue c env (eval c env);pure (ForInStep.yield ok)else pure (ForInStep.yield r)) (fun ok s₃=>
      if ok=true then wpAny (model prog w) A (eval elt env) (fun x s₄=>
       wpAny (model prog w) A (call (.builtin "list.append") [acc,x]) (fun _ s₅=>∃m,m<n/\I m s₅) (fun _ _=>False) s₄) (fun _ _=>False) s₃
      else ∃m,m<n/\I m s₃) (fun _ _=>False) s₂) (fun _ _=>False) s₂) (fun _ _=>False) s₁) (fun _ _=>False) s)
  (n:Nat) (h:I n s):
  codeAny (model prog w) A (.compLoop (.ListComp elt [⟨target,iter,ifs,0⟩] scope pos) 0 it acc env) R s:=by
 refine codeAny_loop rfl I (fun n s hI=>?_) n h
 show wpAny _ A ((compTurn (.ListComp elt [⟨target,iter,ifs,0⟩] scope pos) 0 it acc env).onRaise (fun x=>do noteFrame x env;theTreesLotGoes x)) _ _ s
 refine wpAny_noted ?_
 rw[compTurn_list]
 refine xa (wpAny_standAt (xa (vB (turn n s hI) (fun r s₁ h₁=>?_) fun _ _ h'=>h'.elim)))
 cases r with
 | none=>exact xg h₁
 | some v=>
  refine xa (vB h₁ (fun _ s₁' h₁=>?_) fun _ _ h'=>h'.elim)
  refine xa (vB h₁ (fun _ s₂ h₂=>xa (vB h₂ (fun ok s₃ h₃=>?_) fun _ _ h'=>h'.elim)) fun _ _ h'=>h'.elim)
  cases ok with
  | false=>exact xg ⟨rfl,h₃⟩
  | true=>
   exact xa (xa (vB h₃ (fun x s₄ h₄=>xa (vB h₄ (fun _ s₅ h₅=>xg (xg ⟨rfl,h₅⟩)) fun _ _ h'=>h'.elim)) fun _ _ h'=>h'.elim))
end
theorem zNe {env:Env}:∀(names:List (Str × NameKind)) (cs:List (Str × Addr)),(∀y∈names,y.2=.free->∃c,env.cells.lookup y.1=some c)->∃cl:List (Str × Addr),
  (forIn names cs fun x r=>(match x,r with|(name,kind),cs=>if(kind == NameKind.free)=true then do let c <- cellOf env name;pure (ForInStep.yield ((name,c)::cs))else pure (ForInStep.yield cs)):Sem (List (Str × Addr)))=pure cl /\
  (∀x c,cl.lookup x=some c->cs.lookup x=some c\/env.cells.lookup x=some c)/\(∀x c,cs.lookup x=some c->∃c',cl.lookup x=some c')/\∀y∈names,y.2=.free->∃c,cl.lookup y.1=some c:=by
 intro names
 induction names with
 | nil=>intro cs _;exact⟨cs,rfl,fun _ _ h=>.inl h,fun x c h=>⟨c,h⟩,fun _ h=>nomatch h⟩
 | cons y r ih=>
  intro cs h
  obtain⟨n,k⟩:=y
  have hr:∀y∈r,y.2=.free->∃c,env.cells.lookup y.1=some c:=fun y hy=>h y (xW _ hy)
  by_cases hk:k=.free
  ·subst hk
   obtain⟨c,hc⟩:=h (n,.free) xS rfl
   obtain⟨cl,e,h1,h2,h3⟩:=ih ((n,c)::cs) hr
   refine⟨cl,?_,fun x d hx=>?_,fun x d hx=>?_,fun y hy hf=>?_⟩
   ·rw[uv]
    have hcell:cellOf env n=(pure c:Sem Addr):=by simp only[cellOf,hc]
    simp only[beq_self_eq_true,xi,hcell]
    simpa using e
   ·rcases h1 x d hx with z|z
    ·rw[vg]at z
     by_cases hxn:(x == n)=true
     ·rw[hxn]at z;simp at z;subst z
      have:x=n:=by simpa using hxn
      subst this;exact .inr hc
     ·rw[yb]at hxn;rw[hxn]at z;exact .inl z
    ·exact .inr z
   ·by_cases hxn:(x == n)=true
    ·exact h2 x c (by rw[vg,hxn])
    ·rw[yb]at hxn
     exact h2 x d (by rw[vg,hxn];exact hx)
   ·rcases xm.mp hy with z|z
    ·subst z;exact h2 n c (by rw[vg];simp)
    ·exact h3 y z hf
  ·have hb:(k == NameKind.free)=false:=by simpa using hk
   obtain⟨cl,e,h1,h2,h3⟩:=ih cs hr
   refine⟨cl,?_,h1,h2,fun y hy hf=>?_⟩
   ·rw[uv]
    simp only[hb,x9,xO]
    simpa using e
   ·rcases xm.mp hy with z|z
    ·subst z;exact absurd hf hk
    ·exact h3 y z hf
theorem zEz {scope:Scope}{env:Env}(h:∀y∈scope.names,y.2=.free->∃c,env.cells.lookup y.1=some c):∃cl:List (Str × Addr),closureFor scope env=pure cl /\
  (∀x c,cl.lookup x=some c->env.cells.lookup x=some c)/\∀y∈scope.names,y.2=.free->∃c,cl.lookup y.1=some c:=by
 obtain⟨cl,e,h1,_,h3⟩:=zNe (env:=env) scope.names [] h
 refine⟨cl,?_,fun x c hx=>(h1 x c hx).elim (fun z=>nomatch z) id,h3⟩
 simp only[closureFor]
 rw[e]
 rfl
theorem zFj {scope:Scope}{env:Env}{x:Str}(h:(relabel scope env).names.lookup x=some .cell\/(relabel scope env).names.lookup x=some .free):∃y∈scope.names,y.1=x/\(y.2=.free\/y.2=.cell):=by
 have key:∀(l:List (Str × NameKind)),((l.map fun(n,k)=>if(k == NameKind.free && env.scope.kind == .function && env.kindOf n == some .cell)then(n,NameKind.cell)else(n,k)).lookup x=some .cell \/
   (l.map fun(n,k)=>if(k == NameKind.free && env.scope.kind == .function && env.kindOf n == some .cell)then(n,NameKind.cell)else(n,k)).lookup x=some .free)->∃y∈l,y.1=x/\(y.2=.free\/y.2=.cell):=by
  intro l
  induction l with
  | nil=>intro h;rcases h with h|h <;> simp at h
  | cons y r ih=>
   intro h
   obtain⟨n,k⟩:=y
   by_cases hb:(k == NameKind.free && env.scope.kind == .function && env.kindOf n == some .cell)=true
   ·have kf:k=.free:=by simp at hb;exact hb.1.1
    by_cases hx:(x == n)=true
    ·have:x=n:=by simpa using hx
     exact⟨(n,k),xS,this.symm,.inl kf⟩
    ·rw[yb]at hx
     simp only[xt,hb,xi,vg,hx]at h
     obtain⟨y,hy,z⟩:=ih h
     exact⟨y,xW _ hy,z⟩
   ·rw[yb]at hb
    by_cases hx:(x == n)=true
    ·have e:x=n:=by simpa using hx
     simp only[xt,hb,vg,hx,x9,xO]at h
     rcases h with h|h
     ·exact⟨(n,k),xS,e.symm,.inr (xE h)⟩
     ·exact⟨(n,k),xS,e.symm,.inl (xE h)⟩
    ·rw[yb]at hx
     simp only[xt,hb,vg,hx,x9,xO]at h
     obtain⟨y,hy,z⟩:=ih h
     exact⟨y,xW _ hy,z⟩
 exact key scope.names h
noncomputable def zAn (X:Cx) (N:List Str) (scope:Scope) (cl:List (Str × Addr)) (C:Addr) (s:Shared) (H:Hp) (fp:List Addr):Cx where
 prog:=X.prog
 w:=X.w
 K:=X.K
 mg:=X.mg
 base:=X.base
 A:=X.A
 N:=N
 s₀:=s
 H₀:=H
 env:=compEnvC scope cl C X.env
 outer:=X.stack
 stack:=X.stack
 ex:=fp
 fn:=fun x=>scope.names.lookup x == some .cell
 calm:=X.calm
 pn:=[]
 xe:=fun _ _=>False
structure CompScope (X:Cx) (own fre:List Str) (ix:List Nat) (scope:Scope):Prop where
 kind:scope.kind=.function
 cell:∀y∈scope.names,y.2=.cell->scope.names.lookup y.1=some .cell
 loc:∀y∈scope.names,y.2=.local->scope.names.lookup y.1=some .local
 fr:∀y∈scope.names,y.2=.free->X.env.kindOf y.1=some .cell\/X.env.kindOf y.1=some .free
 len:fre.length=ix.length
 at_:∀(j:Nat) (i:Nat) (x:Str),fre[j]?=some x->ix[j]?=some i->X.N[i]?=some x/\(X.env.kindOf x=some .cell\/X.env.kindOf x=some .free)
 vis:∀x∈fre,(relabel scope X.env).names.lookup x=some .cell\/(relabel scope X.env).names.lookup x=some .free
 fno:∀x∈fre,scope.names.lookup x≠some .cell
noncomputable def zLc (scope sc:Scope):Scope:=
 { scope with names:=scope.names.map fun(n,k)=>if(k == .free && sc.kind == .function && sc.names.lookup n == some .cell)then(n,.cell)else(n,k) }
noncomputable def zCf (o:Option NameKind):Bool:=o == some .cell || o == some .free
theorem zCt {o:Option NameKind}(h:zCf o=true):o=some .cell\/o=some .free:=by
 simpa[zCf]using h
noncomputable def zTv (sc:Scope) (N own fre:List Str) (ix:List Nat) (scope:Scope):Bool:=
 (scope.kind == .function) && (scope.names.all fun y=>y.2 != .cell || scope.names.lookup y.1 == some .cell) && (scope.names.all fun y=>y.2 != .local || scope.names.lookup y.1 == some .local) &&
 (scope.names.all fun y=>y.2 != .free || zCf (sc.names.lookup y.1)) && (fre.length == ix.length) && ((fre.zip ix).all fun p=>N[p.2]? == some p.1 && zCf (sc.names.lookup p.1)) &&
 (fre.all fun x=>zCf ((zLc scope sc).names.lookup x)) && fre.all fun x=>scope.names.lookup x != some .cell
theorem CompScope.mk' {X:Cx}{N own fre:List Str}{ix:List Nat}{scope sc:Scope}(hs:X.env.scope=sc) (hN:X.N=N) (h:zTv sc N own fre ix scope=true):CompScope X own fre ix scope:=by
 simp only[zTv,xM]at h
 obtain⟨⟨⟨⟨⟨⟨⟨h1,h2⟩,h3⟩,h4⟩,h5⟩,h6⟩,h7⟩,h8⟩:=h
 subst hs
 subst hN
 refine⟨by simpa using h1,fun y hy hl=>?_,fun y hy hl=>?_,fun y hy hl=>?_,by simpa using h5,fun j i x e1 e2=>?_,fun x hx=>?_,fun x hx=>?_⟩
 ·have:=vv.mp h2 y hy
  rw[hl]at this
  simpa using this
 ·have:=vv.mp h3 y hy
  rw[hl]at this
  simpa using this
 ·have:=vv.mp h4 y hy
  rw[hl]at this
  exact zCt (show zCf (X.env.scope.names.lookup y.1)=true by simpa using this)
 ·have hz:(x,i)∈fre.zip ix:=by
   refine uL.mpr ⟨j,?_⟩
   rw[List.getElem?_zip_eq_some]
   exact⟨e1,e2⟩
  have:=vv.mp h6 (x,i) hz
  simp only[xM]at this
  exact⟨by simpa using this.1,zCt this.2⟩
 ·exact zCt (vv.mp h7 x hx)
 ·have:=vv.mp h8 x hx
  simpa using this
section
variable {M:Model}{A:Around}{E:Value->Shared->Prop}{s:Shared}
theorem zQc {lo:Nat}:∀(names:List (Str × NameKind)) (n:Nat) (acc:List (Str × Addr)) (x:Str) (c:Addr),lo<=n->((x,NameKind.cell)∈names\/∀c,acc.lookup x=some c->lo<=c)->(cellsFrom n names acc).lookup x=some c->lo<=c
 | [],_,_,_,_,_,h,e=>h.elim (fun z=>nomatch z) fun z=>z _ e
 | (m,k)::r,n,acc,x,c,hn,h,e=>by
  unfold cellsFrom at e
  split at e
  ·refine zQc r (n+1) _ x c (by nofun) ?_ e
   by_cases hx:x=m
   ·refine .inr fun c' q=>?_
    rw[vg,show(x == m)=true by rw[hx];exact beq_self_eq_true m]at q
    cases q;exact hn
   ·have hb:(x == m)=false:=by simpa using hx
    rcases h with h|h
    ·rcases xm.mp h with z|z
     ·exact absurd (congrArg Prod.fst z) hx
     ·exact .inl z
    ·exact .inr fun c' q=>h c' (by rw[vg,hb]at q;exact q)
  ·rename_i hk
   refine zQc r n acc x c hn ?_ e
   rcases h with h|h
   ·rcases xm.mp h with z|z
    ·cases z;exact absurd rfl hk
    ·exact .inl z
   ·exact .inr h
theorem zQd:∀(names:List (Str × NameKind)) (n:Nat) (acc:List (Str × Addr)) (x:Str),(∀y∈names,y.1=x->y.2≠.cell)->(cellsFrom n names acc).lookup x=acc.lookup x
 | [],_,_,_,_=>rfl
 | (m,k)::r,n,acc,x,h=>by
  unfold cellsFrom
  split
  ·rename_i hk
   rw[zQd r _ _ x fun y hy=>h y (xW _ hy),vg]
   have hx:(x == m)=false:=by
    cases q:x == m with
    | false=>rfl
    | true=>exact absurd (by simpa using hk) (h (m,k) xS (by simpa using(beq_iff_eq.mp q).symm))
   rw[hx]
  ·exact zQd r n acc x fun y hy=>h y (xW _ hy)
theorem zQe:∀(names:List (Str × NameKind)) (n:Nat) (acc:List (Str × Addr)),(∀x c,acc.lookup x=some c->c<n)->(∀x y c,acc.lookup x=some c->acc.lookup y=some c->x=y)->
  ∀x y c,(cellsFrom n names acc).lookup x=some c->(cellsFrom n names acc).lookup y=some c->x=y
 | [],_,_,_,h=>h
 | (m,k)::r,n,acc,hl,h=>by
  unfold cellsFrom
  split
  ·refine zQe r (n+1) _ (fun x c e=>?_) fun x y c e1 e2=>?_
   ·rw[vg]at e
    cases q:x == m with
    | true=>rw[q]at e;cases e;exact Nat.lt_succ_self _
    | false=>rw[q]at e;exact uw (hl x c e)
   ·rw[vg]at e1 e2
    cases q:x == m with
    | true=>
     cases q':y == m with
     | true=>rw[beq_iff_eq.mp q,beq_iff_eq.mp q']
     | false=>rw[q]at e1;rw[q']at e2;cases e1;exact absurd (hl y _ e2) (vt _)
    | false=>
     cases q':y == m with
     | true=>rw[q]at e1;rw[q']at e2;cases e2;exact absurd (hl x _ e1) (vt _)
     | false=>rw[q]at e1;rw[q']at e2;exact h x y c e1 e2
  ·exact zQe r n acc hl h
theorem zIi:∀(names:List (Str × NameKind)) (n:Nat) (acc:List (Str × Addr)) (x:Str),((x,NameKind.cell)∈names\/∃c,acc.lookup x=some c)->∃c,(cellsFrom n names acc).lookup x=some c
 | [],_,_,_,h=>h.elim (fun z=>nomatch z) id
 | (m,k)::r,n,acc,x,h=>by
  unfold cellsFrom
  split
  ·refine zIi r (n+1) _ x ?_
   cases q:x == m with
   | true=>exact .inr ⟨n,by rw[vg,q]⟩
   | false=>
    rcases h with h|⟨c,h⟩
    ·rcases xm.mp h with z|z
     ·rw[show x=m from congrArg Prod.fst z,beq_self_eq_true]at q;cases q
     ·exact .inl z
    ·exact .inr ⟨c,by rw[vg,q];exact h⟩
  ·rename_i hk
   refine zIi r n acc x ?_
   rcases h with h|h
   ·rcases xm.mp h with z|z
    ·cases z;exact absurd rfl hk
    ·exact .inl z
   ·exact .inr h
theorem zKt:∀(names:List (Str × NameKind)) (h:Heap) (acc:List (Str × Addr)) (lo:Nat),lo<=h.objs.size->(∀x c,acc.lookup x=some c->lo<=c->h.IsCell c none)->∀x c,(cellsFrom h.objs.size names acc).lookup x=some c->lo<=c->(pushCells h names).IsCell c none
 | [],_,_,_,_,q=>q
 | (m,k)::r,h,acc,lo,hl,q=>by
  unfold cellsFrom pushCells
  split
  ·have:=zKt r (h.push { cls:=.type "cell",data:=.cell none }) ((m,h.objs.size)::acc) lo (by rw[ve];lia) fun x c e hc=>by
    rw[vg]at e
    cases z:x == m with
    | true=>rw[z]at e;cases e;exact⟨_,xu _ rfl,rfl⟩
    | false=>rw[z]at e;exact(q x c e hc).keeps fun b o e=>xj _ e
   rwa[ve]at this
  ·exact zKt r h acc lo hl q
theorem zP5 {scope:Scope}{globals:Addr}{closure:List (Str × Addr)}{qual:Str}{around:Env}{Q:Env->Shared->Prop}
  (hQ:Q (newEnv scope s.heap.objs.size globals (cellsFrom (s.heap.objs.size+1) scope.names closure) qual none .none (some around) builtinsNs) { s with heap:=pushCells (s.heap.push { cls:=.type "dict",data:=.dict #[] }) scope.names }):
  wpAny M A (newFunctionEnv scope globals closure [] qual none .none (some around)) Q E s:=by
 simp only[newFunctionEnv,Option.isSome_some,xi]
 refine xa (wpAny_alloc ?_)
 refine xa (wpAny_layCells _ (fun name kind cells=>by cases hkc:kind == NameKind.cell <;> simp[hkc]) _ _ _ _ ?_)
 rw[show({ s with heap:=s.heap.push { cls:=.type "dict",data:=.dict #[] } }:Shared).heap.objs.size=s.heap.objs.size+1 from ve ..]
 simp only[uM]
 exact xa (xg (xg hQ))
end
structure ClOk (X:Cx) (scope:Scope) (C:Addr) (cl:List (Str × Addr)):Prop where
 inj:∀x y c,cl.lookup x=some c->cl.lookup y=some c->x=y
 own:∀x c,scope.names.lookup x=some .cell->cl.lookup x=some c->C<c
 old:∀x c,scope.names.lookup x≠some .cell->cl.lookup x=some c->X.env.cells.lookup x=some c
 has:∀y∈scope.names,(y.2=.free\/y.2=.cell)->∃c,cl.lookup y.1=some c
theorem ClOk.or {X:Cx}{scope:Scope}{C:Addr}{cl:List (Str × Addr)}(h:ClOk X scope C cl) {x:Str}{c:Addr}(e:cl.lookup x=some c):X.env.cells.lookup x=some c\/C<c:=by
 by_cases q:scope.names.lookup x=some .cell
 ·exact .inr (h.own x c q e)
 ·exact .inl (h.old x c q e)
noncomputable def zEd (own:List Str) (ix:List Nat) (σ:St):St:=own.map (fun _=>none)++ix.map fun i=>(σ[i]?).join
section
variable {X:Cx}{pins:List (Addr × Obj)}{σ:St}{H:Hp}{s:Shared}{own fre:List Str}{ix:List Nat}{scope:Scope}{cl:List (Str × Addr)}{fp:List Addr}{C:Addr}
theorem Inv.stkNo (I:Inv X pins σ H s) {b:Addr}(h:FpOk X pins H b):b ∉ frs X.stack:=fun hb=>
 (xm.mp (I.stkSub b hb)).elim h.2.1 h.2.2.1
theorem zWz (I:Inv X pins σ H s) (hf:∀b∈fp,FpOk X pins H b) (hlt:∀b∈fp,b<s.heap.objs.size) (S:CompScope X own fre ix scope) (hcl:ClOk X scope C cl)
  (hC:s.heap.objs.size<=C):(zAn X (own++fre) scope cl C s H fp).Ok where
 mod:=I.ok.mod
 kind:=S.kind
 glob:=I.ok.glob
 blt:=I.ok.blt
 above:=hC
 inj:=hcl.inj
 has:=fun x hx=>by
  obtain⟨y,hy,e,k⟩:=zFj hx
  subst e
  exact hcl.has y hy k
 cab:=fun x c h e=>vb (ya hC (hcl.own x c (by simpa[zAn]using h) e))
 hd:=I.ok.hd
 frames:=I.ok.frames
 stk:=.inl rfl
 exf:=fun b hb=>⟨xq (xr (hlt b hb) hC),fun x c e=>(hcl.or e).elim (fun e=>(hf b hb).2.2.2.2.1 x c e) fun z=>xo (xq (xZ (xr (hlt b hb) hC) z))⟩
 bs:=I.bs
 bsz:=xH I.ok.bsz I.sz
 noex:=fun b o e hb=>by
  rcases(hf b hb).2.2.2.1 with z|z
  ·exact I.ok.noex b o e z
  ·exact absurd (xr (xl e) (xH I.ok.bsz z)) (vt _)
 exfs:=fun b hb=>I.stkNo (hf b hb)
 funs:=I.stack
 frf:=I.stkFree
theorem zNc {h₁:Heap}{t':Nat}{m:Str->Option Value}(I:Inv X pins σ H s) (hf:∀b∈fp,FpOk X pins H b) (hlt:∀b∈fp,b<s.heap.objs.size) (S:CompScope X own fre ix scope) (hcl:ClOk X scope C cl) (hnew:∀x c,cl.lookup x=some c->C<c->h₁.IsCell c none)
  (hC:s.heap.objs.size<=C) (old:∀b o,s.heap.get? b=some o->h₁.get? b=some o) (hn:h₁.Ns C m):
  Inv (zAn X (own++fre) scope cl C s H fp) [] (zEd own ix σ) H { s with heap:=h₁,toks:=t' } where
 ok:=zWz I hf hlt S hcl hC
 os:=rfl
 bare:=I.bare
 base:=Un.kept old
 loc:=by
  refine⟨m,hn,fun i x v e1 e2 e3=>?_⟩
  obtain⟨m0,hn0,hl⟩:=I.loc
  have hi:own.length<=i:=by
   rcases xJ i own.length with z|z
   ·rw[zEd,xX (by simpa using z),xK]at e2
    cases q:own[i]? <;> rw[q]at e2 <;> simp at e2
   ·exact z
  have e1':(own++fre)[i]?=some x:=e1
  rw[vq hi]at e1'
  rw[zEd,vq (by simpa using hi),xK,xn]at e2
  cases q:ix[i-own.length]? with
  | none=>rw[q]at e2;simp at e2
  | some j=>
   rw[q]at e2
   obtain⟨hN,hk⟩:=S.at_ _ _ _ e1' q
   have e2':(σ[j]?).join=some v:=by simpa using e2
   have e4:σ[j]?=some (some v):=by
    cases z:σ[j]? with
    | none=>rw[z]at e2';cases e2'
    | some o=>rw[z]at e2';exact congrArg some e2'
   obtain⟨u,r,lk⟩:=hl j x v hN e4 (hk.elim (fun z=>.inr (.inl z)) fun z=>.inr (.inr z))
   refine⟨u,r,.inr ?_⟩
   rcases lk with⟨k,_⟩|⟨k,c,ec,hc⟩
   ·rcases hk with z|z <;> · rw[k]at z;cases z
   ·have fin:((zAn X (own++fre) scope cl C s H fp).env.kindOf x=some .cell\/(zAn X (own++fre) scope cl C s H fp).env.kindOf x=some .free):=by
     exact S.vis x (xU e1')
    refine⟨fin,?_⟩
    obtain⟨y,hy,e,kf⟩:=zFj (env:=X.env) (x:=x) fin
    subst e
    obtain⟨c',hc'⟩:=hcl.has y hy kf
    have:=(hcl.old _ _ (S.fno _ (xU e1')) hc').symm.trans ec
    cases this
    exact⟨c,hc',by obtain⟨o,ho,hd⟩:=hc;exact⟨o,old _ _ ho,hd⟩⟩
 cell:=fun x c e=>by
  rcases hcl.or e with q|q
  ·obtain⟨v,o,ho,hd⟩:=I.cell x c q
   exact⟨v,o,old _ _ ho,hd⟩
  ·exact⟨none,hnew x c e q⟩
 free:=I.hok.fresh hC
 freeC:=fun x c e=>(hcl.or e).elim (fun q=>I.freeC x c q) fun q=>I.hok.fresh (vb (ya hC q))
 pin:=fun p hp=>nomatch hp
 hok:=I.hok.kept old
 len:=by simp[zEd,zAn,S.len]
end
noncomputable def PIfs (X:Cx) (ifs:List Expr) (t:TT):Prop:=
 ∀(pins:List (Addr × Obj)) (s:Shared) (σ:St) (H:Hp) (Q:Bool->Hp->Prop),Inv X pins σ H s->t σ H Q->
  wpAny (model X.prog X.w) X.A (forIn ifs true fun c r=>if r=true then do let ok <- isTrue c X.env (eval c X.env);pure (ForInStep.yield ok)else pure (ForInStep.yield r)) (TP X pins σ Q) X.xe s
noncomputable def tYes:TT:=fun _ H Q=>Q true H
theorem zRf {X:Cx}:PIfs X [] tYes:=fun pins s σ H Q I h=>xg ⟨H,I,h⟩
theorem zRe {X:Cx}{c:Expr}{t:TT}(hc:PT X c t):PIfs X [c] t:=by
 intro pins s σ H Q I h
 rw[uv]
 simp only[xi]
 refine xa (xa (thn (hc pins s σ H Q I h) fun b s1 q=>xg ?_))
 simp only[uM]
 exact xg q
noncomputable def zT7 (J:It) (g:TG) (tt:TT) (te:TE) (σc:St) (H1:Hp) (Qd:List V->Hp->Prop):Prop:=
 ∃W:Nat->Nat->List V->St->Hp->Prop,(∃m,W 0 m [] σc H1)/\∀i m ys σ H,W i m ys σ H->
  (J.stop i H/\Qd ys H)\/(J.go i H/\ys.length<sizeLine/\∃N:List V->St->Hp->Prop,(∀zs σ' H',N zs σ' H'->∃m',m'<m/\W (i+1) m' zs σ' H')/\∀x H',J.yld i H x H'->g x σ H' fun σ2 H2=>tt σ2 H2 fun c H3=>
   if c=true then te σ2 H3 fun y H4=>N (ys++[y]) σ2 H4 else N ys σ2 H3)
theorem HOk.adopt {P:Program}{w:World}{H:Hp}{h:Heap}{D:Addr}{o:HO}(x:HOk P w H h) (n:H D=none) (new:ObjOk P w (upd H D o) h D o):HOk P w (upd H D o) h:=fun b u e=>by
 by_cases hb:b=D
 ·subst hb
  rw[zAu]at e
  cases e
  exact new
 ·rw[zAm hb]at e
  refine(x b u e).stay (fun c v _ q=>q) (fun c q=>?_) fun c xs q=>?_
  ·rw[zAm (zAo q n)];exact q
  ·rw[zAm (zAo q n)];exact q
theorem Un.adopt {fs ex:List Addr}{H H':Hp}{h h':Heap}{D:Addr}{o:HO}(u:Un fs ex H H' h h') (hD:h.objs.size<=D) (n:H' D=none):Un fs ex H (upd H' D o) h h' where
 keep:=u.keep
 slot:=u.slot
 free:=fun b ob e n' hx=>by rw[zAm (xq (xr (xl e) hD))];exact u.free b ob e n' hx
 there:=u.there
 tups:=fun b xs e=>by have:=u.tups b xs e;rw[zAm (zAo this n)];exact this
 frzs:=fun b ob xs e=>by have:=u.frzs b ob xs e;rw[zAm (zAo this n)];exact this
 tbls:=fun b ps e=>by obtain⟨m,z⟩:=u.tbls b ps e;exact⟨m,by rw[zAm (zAo z n)];exact z⟩
section
variable {X:Cx}{pins:List (Addr × Obj)}{σ:St}{H2:Hp}{s2:Shared}{own fre:List Str}{ix:List Nat}{scope:Scope}{cl:List (Str × Addr)}{fp:List Addr}{C:Addr}
theorem zHk {tg elt iter:Expr}{ifs:List Expr}{pos:Pos}{J:It}{it:Addr}{tn:Nat->Heap->Prop}{g:TG}{tt:TT}{te:TE}{Qd:List V->Hp->Prop}{RR:Value->Addr->Result->Shared->Prop}{E:Value->Shared->Prop}{cl0:List (Str × Addr)}
  (I2:Inv X pins σ H2 s2) (T:Turn X.prog X.w X.K tg J fp it tn) (st2:tn 0 s2.heap) (f2:∀b∈fp,FpOk X pins H2 b) (hc:X.calm=true) (S:CompScope X own fre ix scope)
  (hcl0:∀x c,cl0.lookup x=some c->X.env.cells.lookup x=some c) (hcf0:∀y∈scope.names,y.2=.free->∃c,cl0.lookup y.1=some c)
  (hg:∀cl C,PG (zAn X (own++fre) scope cl C s2 H2 fp) tg g) (hi:∀cl C,PIfs (zAn X (own++fre) scope cl C s2 H2 fp) ifs tt) (he:∀cl C,PE (zAn X (own++fre) scope cl C s2 H2 fp) elt te)
  (q:zT7 J g tt te (zEd own ix σ) H2 Qd)
  (hRR:∀D C s' m' ys H',Inv X pins σ (upd H' D (.lst ys)) s'->s'.heap.Ns C m'->FpOk X pins (upd H' D (.lst ys)) C->H' D=none->Qd ys H'->RR (.ref D) C (.ok .next) s'):
  wpAny (model X.prog X.w) X.A (newList []) (fun acc s₃=>wpAny (model X.prog X.w) X.A (newFunctionEnv scope X.env.globals cl0 [] X.env.qual none .none (some X.env)) (fun cenv s₄=>
   codeAny (model X.prog X.w) X.A (.compStart (.ListComp elt [⟨tg,iter,ifs,0⟩] scope pos) 0 (.ref it) acc { cenv with scope:=relabel scope X.env }) (RR acc cenv.locals) s₄) E s₃) E s2:=by
 obtain⟨W,⟨m0,w0⟩,turn⟩:=q
 refine vd (zP5 ?_)
 dsimp only
 generalize hHH:s2.heap.push { cls:=.type "list",dict:=none,data:=.seq ([]:List Value).toArray }=HH
 have hC:HH.objs.size=s2.heap.objs.size+1:=by rw[<- hHH,ve]
 have hns₁:(pushCells (HH.push { cls:=.type "dict",data:=.dict #[] }) scope.names).Ns HH.objs.size fun _=>none:=(Heap.Ns.new HH (.type "dict")).keeps (pushCells_keeps _ _)
 have hkp:∀b o,HH.get? b=some o->(pushCells (HH.push { cls:=.type "dict",data:=.dict #[] }) scope.names).get? b=some o:=fun b o e=>pushCells_keeps _ _ b o (xj _ e)
 have hltc:∀x c,cl0.lookup x=some c->c<HH.objs.size+1:=fun x c e=>by
  obtain⟨v,o,ho,_⟩:=I2.cell x c (hcl0 x c e)
  rw[hC]
  exact uw (uw (xl ho))
 have hnew:∀x c,(cellsFrom (HH.objs.size+1) scope.names cl0).lookup x=some c->HH.objs.size<c->(pushCells (HH.push { cls:=.type "dict",data:=.dict #[] }) scope.names).IsCell c none:=by
  have:=zKt scope.names (HH.push { cls:=.type "dict",data:=.dict #[] }) cl0 (HH.objs.size+1) (by rw[ve];exact xh _) fun x c e hc=>absurd (xr (hltc x c e) hc) (vt _)
  rw[ve]at this
  exact fun x c e h=>this x c e h
 have hcl:ClOk X scope HH.objs.size (cellsFrom (HH.objs.size+1) scope.names cl0):={
  inj:=zQe _ _ _ hltc fun x y c e1 e2=>I2.ok.inj x y c (hcl0 x c e1) (hcl0 y c e2)
  own:=fun x c h e=>zQc (lo:=HH.objs.size+1) _ _ _ x c (xh _) (.inl (uJ h)) e
  old:=fun x c h e=>by
   rw[zQd _ _ _ x fun y hy ex ec=>h (by rw[<- ex];exact S.cell y hy ec)]at e
   exact hcl0 x c e
  has:=fun y hy hk=>by
   obtain⟨n,k⟩:=y
   rcases hk with hk|hk
   ·exact zIi _ _ _ _ (.inr (hcf0 _ hy hk))
   ·dsimp only at hk
    subst hk
    exact zIi _ _ _ _ (.inl hy) }
 generalize cellsFrom (HH.objs.size+1) scope.names cl0=cl at hnew hcl ⊢
 generalize pushCells (HH.push { cls:=.type "dict",data:=.dict #[] }) scope.names=h₁ at hns₁ hkp hnew ⊢
 generalize hDe:s2.heap.objs.size=D at *
 generalize hCe:HH.objs.size=C at *
 have hDC:D≠C:=by nofun
 have hDle:s2.heap.objs.size<=D:=by nofun
 have hCle:s2.heap.objs.size<=C:=by nofun
 have below:∀b o,s2.heap.get? b=some o->b≠C/\b≠D:=fun b o e=>⟨xq (xr (xl e) hCle),xq (xr (xl e) hDle)⟩
 have old:∀b o,s2.heap.get? b=some o->h₁.get? b=some o:=fun b o e=>hkp b o (hHH ▸ xj _ e)
 have hacc:h₁.get? D=some { cls:=.type "list",dict:=none,data:=.seq ([]:List Value).toArray }:=hkp _ _ (hHH ▸ hDe ▸ xu _ rfl)
 have fpo:∀b∈fp,∃o,s2.heap.get? b=some o/\∀v,o.data≠.cell v:=T.obj _ _ st2
 have hlt:∀b∈fp,b<s2.heap.objs.size:=fun b hb=>by obtain⟨o,e,_⟩:=fpo b hb;exact xl e
 have hDf:D ∉ fp:=fun hm=>absurd (xr (hlt D hm) hDle) (vt _)
 have hcD:∀x c,cl.lookup x=some c->c≠D:=fun x c e z=>by
  rcases hcl.or e with q|q
  ·obtain⟨v,o,ho,_⟩:=I2.cell x c q
   exact(below c o ho).2 z
  ·exact absurd (xr q (by rw[z,hC];exact Nat.le_succ _)) (vt _)
 let Xc:=zAn X (own++fre) scope cl C s2 H2 fp
 have hnoS:∀b,s2.heap.objs.size<=b->b ∉ frs X.stack:=fun b hb z=>by
  rcases xm.mp (I2.stkSub b z)with z|z
  ·exact absurd (xr I2.lt hb) (by rw[z];exact vt _)
  ·exact I2.nofs hb z
 have loop:∀t',codeAny (model X.prog X.w) X.A (.compLoop (.ListComp elt [⟨tg,iter,ifs,0⟩] scope pos) 0 (.ref it) (.ref D) (compEnvC scope cl C X.env)) (RR (.ref D) C) { s2 with heap:=h₁,toks:=t' }:=by
  intro t'
  have I4:Inv Xc [] (zEd own ix σ) H2 { s2 with heap:=h₁,toks:=t' }:=zNc I2 f2 hlt S hcl hnew hCle old hns₁
  refine zJf (fun n s'=>∃i ys σ' H' its k,Inv Xc [] σ' H' s'/\tn i s'.heap/\(∀b∈fp,H' b=none)/\H' D=none/\s'.heap.get? D=some ({ cls:=.type "list",data:=.seq (List.toArray its) k }:Obj)/\Vals ys its/\ys.length<=sizeLine/\W i n ys σ' H')
   ?_ m0 ⟨0,[],_,H2,[],_,I4,T.keep _ _ _ st2 (fun b _ o e=>old b o e),fun b hb=>(f2 b hb).1,I2.hok.fresh hDle,hacc,.nil,vf _,w0⟩
  rintro n s3 ⟨i,ys,σ3,H3,its,k,I3,st3,fr3,hD3,ho3,hv3,hz3,w3⟩
  have I3p:Inv Xc [(D,{ cls:=.type "list",data:=.seq (List.toArray its) k })] σ3 H3 s3:=I3.pins_of fun p hp=>by
   have e:p=(D,({ cls:=.type "list",data:=.seq (List.toArray its) k }:Obj)):=by simpa using hp
   subst e
   exact⟨ho3,hD3,hDC,hnoS D hDle,fun v z=>by cases z⟩
  have stat:∀{H':Hp},(∀b∈fp,H' b=none)->∀b∈fp,FpOk Xc [(D,({ cls:=.type "list",data:=.seq (List.toArray its) k }:Obj))] H' b:=fun hn b hb=>
   ⟨hn b hb,xq (xr (hlt b hb) hCle),I2.stkNo (f2 b hb),.inl hb,fun x c e=>(hcl.or e).elim (fun e=>(f2 b hb).2.2.2.2.1 x c e) fun z=>xo (xq (xZ (xr (hlt b hb) hCle) z)),fun p hp z=>by
    have e:p=(D,({ cls:=.type "list",data:=.seq (List.toArray its) k }:Obj)):=by simpa[Xc,zAn]using hp
    rw[e]at z;exact hDf (by rw[show D=b from z];exact hb)⟩
  rcases turn i n ys σ3 H3 w3 with⟨stop,qn⟩|⟨go,hys,N,hN,step⟩
  ·refine thn (T.done Xc rfl rfl rfl hc i _ s3 σ3 H3 _ I3p (stat fr3) st3 stop) fun r s4 hq1=>?_
   obtain⟨hr,I4⟩:=hq1
   subst hr
   have ho4:=(I4.pin (D,_) (vp _ xS)).1
   obtain⟨m',hn',_⟩:=I4.loc
   have un:Un (frs X.stack) fp H2 (upd H3 D (.lst ys)) s2.heap s4.heap:=Un.adopt (show Un (frs X.stack) fp H2 H3 s2.heap s4.heap from I4.base) hDle hD3
   have hok:HOk X.prog X.w (upd H3 D (.lst ys)) s4.heap:=HOk.adopt (show HOk X.prog X.w H3 s4.heap from I4.hok) hD3 ⟨hz3,its,_,hv3,ho4⟩
   have IX:Inv X pins σ (upd H3 D (.lst ys)) s4:=I2.call' (ch:=fp) I4.os un hok I4.bare fun b hb=>⟨(f2 b hb).2.2.2.1,(f2 b hb).2.1,(f2 b hb).2.2.2.2.1,(f2 b hb).2.2.2.2.2⟩
   exact hRR D C s4 m' ys H3 IX hn' (I2.fpOk hCle (by rw[zAm (xo hDC)];exact I4.free)) hD3 qn
  ·refine thn (T.item Xc rfl rfl rfl hc i _ s3 σ3 H3 _ I3p (stat fr3) st3 go) fun r s4 hq1=>?_
   obtain⟨u,hr,h4⟩:=hq1
   subst hr
   refine thn h4 fun _ s5 hq1=>?_
   obtain⟨x,H5,I5,r5,y5,st5,fr5⟩:=hq1
   have I5':=I5.pinned (stat fr5) (T.obj _ _ st5)
   refine thn (hg cl C _ s5 σ3 H5 x u _ I5' r5 (step x H5 y5)) fun _ s6 hq1=>?_
   obtain⟨σ6,H6,I6,q6⟩:=hq1
   refine thn (hi cl C _ s6 σ6 H6 _ I6 q6) fun b s7 hq1=>?_
   obtain⟨H7,I7,q7⟩:=hq1
   have keepT:∀{σ7:St}{H7:Hp}{s7:Shared}{h':Heap},Inv Xc ([(D,({ cls:=.type "list",data:=.seq (List.toArray its) k }:Obj))]++zIw fp s5.heap) σ7 H7 s7->(∀b o,b≠D->s7.heap.get? b=some o->h'.get? b=some o)->tn (i+1) h'/\∀b∈fp,H7 b=none:=fun {σ7 H7 s7 h'} I7 hk=>by
    refine⟨T.keep _ _ _ st5 fun b hb o e=>hk b o (fun z=>hDf (z ▸ hb)) (I7.pin (b,o) (vp _ (vp _ (zE2 hb e)))).1,fun b hb=>?_⟩
    obtain⟨o,e,d⟩:=T.obj _ _ st5 b hb
    exact(I7.pin (b,o) (vp _ (vp _ (zE2 hb e)))).2.1
   cases b with
   | false=>
    obtain⟨m',hm,w7⟩:=hN _ _ _ q7
    obtain⟨t7,f7⟩:=keepT (h':=s7.heap) I7 fun _ _ _ e=>e
    have pD:=I7.pin (D,_) (vp _ (u6 _ xS))
    exact⟨m',hm,i+1,ys,σ6,H7,its,k,I7.pins_of (fun p hp=>nomatch hp),t7,f7,pD.2.1,pD.1,hv3,hz3,w7⟩
   | true=>
    refine thn (he cl C _ s7 σ6 H7 _ I7 q7) fun y s8 hq1=>?_
    obtain⟨v,H8,I8,r8,n8⟩:=hq1
    obtain⟨m',hm,w8⟩:=hN _ _ _ n8
    have pD:=I8.pin (D,_) (vp _ (u6 _ xS))
    have hsz:its.toArray.size<=sizeLine:=by rw[xv,<- hv3.length];exact hz3
    refine wpAny_list_append_plain (hsz:=hsz) (show s8.heap.PlainList D its.toArray from⟨_,pD.1⟩) fun h₅ hl₅ hs₅=>?_
    obtain⟨t8,f8⟩:=keepT (h':=h₅) I8 fun b o hb e=>hs₅.extBut b o hb e
    obtain⟨k',ho5⟩:=hl₅
    have I9:Inv Xc [] σ6 H8 { s8 with heap:=h₅ }:=(I8.pins_of (pins':=[]) (fun p hp=>nomatch hp)).turned (it:=D) (t':=s8.toks) (fun b o hb e=>hs₅.extBut b o hb e) pD.2.1 hDC (.inr hDle) hcD fun p hp=>nomatch hp
    refine⟨m',hm,i+1,ys++[v],σ6,H8,its++[y],k',I9,t8,f8,pD.2.1,?_,hv3.append (.cons r8 .nil),(by rw[vD,List.length_singleton];exact hys),w8⟩
    show h₅.get? D=_
    rw[ho5];simp
 exact codeAny_compStart_list (loop _) (T.self _ 0 _ _ _ (T.keep _ _ _ st2 (fun b _ o e=>old b o e)) (loop _))
end
noncomputable def zK2 (own:List Str) (ix:List Nat) (wi:TI) (g:TG) (tt:TT) (te:TE):TE:=fun σ H Q=>wi σ H fun J H1=>
 zT7 J g tt te (zEd own ix σ) H1 fun ys H2=>∀D,H2 D=none->Q (.ref D) (upd H2 D (.lst ys))
section
variable {X:Cx}{own fre:List Str}{ix:List Nat}{scope:Scope}
theorem zRk {tg elt iter:Expr}{ifs:List Expr}{pos:Pos}{wi:TI}{g:TG}{tt:TT}{te:TE}(hc:X.calm=true) (S:CompScope X own fre ix scope) (hi:PI X tg iter wi)
  (hg:∀cl C s H fp,PG (zAn X (own++fre) scope cl C s H fp) tg g) (ht:∀cl C s H fp,PIfs (zAn X (own++fre) scope cl C s H fp) ifs tt) (he:∀cl C s H fp,PE (zAn X (own++fre) scope cl C s H fp) elt te)
  (hs:∀x,foldedSetIterable iter X.env x=pure x:=by intro _;rfl):PE X (.ListComp elt [⟨tg,iter,ifs,0⟩] scope pos) (zK2 own ix wi g tt te):=by
 intro pins s σ H Q I h
 obtain⟨cl,ecl,hcl,hcf⟩:=zEz (scope:=scope) (env:=X.env) fun y hy hf=>I.ok.has y.1 (S.fr y hy hf)
 rw[eval_ListComp]
 refine wpAny_comprehension_free (use:=none) rfl hs ecl S.kind S.loc (thn (hi pins s σ H _ I h) fun v s1 h1=>thn h1 fun itv s2 h2=>?_)
 obtain⟨it,fp,tn,J,H2,e,I2,T,st2,f2,q⟩:=h2
 subst e
 refine zHk (RR:=fun acc C=>compPost (model X.prog X.w) X.A X.xe none (EP X pins σ Q) acc C) I2 T st2 f2 hc S hcl hcf (fun cl C=>hg _ _ _ _ _) (fun cl C=>ht _ _ _ _ _) (fun cl C=>he _ _ _ _ _) q ?_
 intro D C s' m' ys H' IX hn fC hD qd
 refine⟨m',hn,fun h' hs'=>?_⟩
 exact⟨.ref D,_,IX.turned (it:=C) (t':=s'.toks) (fun b o hb e=>hs'.extBut b o hb e) fC.1 fC.2.1 fC.2.2.2.1 fC.2.2.2.2.1 fC.2.2.2.2.2,rfl,qd D hD⟩
theorem zV1 {i:Nat}{x:Str}{pos':Pos}{tg elt iter:Expr}{ifs:List Expr}{pos cpos:Pos}{wi:TI}{g:TG}{tt:TT}{te:TE}(hN:X.N.Nodup) (hix:X.N[i]?=some x) (hx:Loc X.env.scope x)
  (hc:X.calm=true) (S:CompScope X own fre ix scope) (hi:PI X tg iter wi)
  (hg:∀cl C s H fp,PG (zAn X (own++fre) scope cl C s H fp) tg g) (ht:∀cl C s H fp,PIfs (zAn X (own++fre) scope cl C s H fp) ifs tt) (he:∀cl C s H fp,PE (zAn X (own++fre) scope cl C s H fp) elt te)
  (hsw:swapsWith (.ListComp elt [⟨tg,iter,ifs,0⟩] scope cpos) (some (.Name x pos')) pos.line X.env=pure true:=by rfl)
  (hs:∀x,foldedSetIterable iter X.env x=pure x:=by intro _;rfl) (hf:X.fn x=true\/X.env.scope.names.lookup x=some .local:=by first|exact .inl rfl|exact .inr rfl|assumption):
  PS X (.Assign [.Name x pos'] (.ListComp elt [⟨tg,iter,ifs,0⟩] scope cpos) pos) (tAsg (zK2 own ix wi g tt te) (gName i)):=by
 intro pins s σ H D I h
 obtain⟨cl,ecl,hcl,hcf⟩:=zEz (scope:=scope) (env:=X.env) fun y hy hf=>I.ok.has y.1 (S.fr y hy hf)
 rw[exec_Assign_Name_used _ _ _ _ hsw]
 refine xa (wpAny_standAt (xa ?_))
 show wpAny _ X.A (do let _ <- comprehension (.ListComp elt [⟨tg,iter,ifs,0⟩] scope cpos) scope X.env _ (newList []) false (eval iter X.env) (some (assign (.Name x pos') X.env))) _ _ s
 refine xa (vB (wpAny_comprehension_free (use:=some (assign (.Name x pos') X.env)) (Q:=fun _ s'=>SP X pins D .next s') rfl hs ecl S.kind S.loc
  (thn (hi pins s σ H _ I h) fun v s1 h1=>thn h1 fun itv s2 h2=>?_)) (fun _ s' hq=>xg (xg hq)) fun _ _ e=>e)
 obtain⟨it,fp,tn,J,H2,e,I2,T,st2,f2,q⟩:=h2
 subst e
 refine zHk (RR:=fun acc C=>compPost (model X.prog X.w) X.A X.xe (some (assign (.Name x pos') X.env)) (fun _ s'=>SP X pins D .next s') acc C) I2 T st2 f2 hc S hcl hcf (fun cl C=>hg _ _ _ _ _) (fun cl C=>ht _ _ _ _ _) (fun cl C=>he _ _ _ _ _) q ?_
 intro D' C s' m' ys H' IX hn fC hD qd
 show wpAny _ X.A (assign (.Name x pos') X.env (.ref D')) _ _ _
 refine wpAny_assign_Name (zIr (v:=.ref D') IX hN hix hx rfl (fun s'' I'' hsb=>?_) hf)
 obtain⟨a,hsb,ha⟩:=hsb
 have hCa:C≠a:=by
  rcases ha with z|z
  ·rw[z];exact fC.2.1
  ·exact xo (fC.2.2.2.2.1 x a z)
 refine⟨m',hn.sameBut hsb hCa,fun h' hs'=>?_⟩
 exact⟨_,_,I''.turned (it:=C) (t':=s''.toks) (fun b o hb e=>hs'.extBut b o hb e) fC.1 fC.2.1 fC.2.2.2.1 fC.2.2.2.2.1 fC.2.2.2.2.2,qd D' hD⟩
end
end L2
namespace LX
open PySem
open Sem (wp)
theorem zRy:typeLookup (.type "list_reverseiterator") "__len__"=pure none:=by rw[uN,uO];kernel_rfl
theorem zWh:typeLookup (.type "list_reverseiterator") "__length_hint__"=pure (some (.builtin "list_reverseiterator.__length_hint__")):=by rw[uN,uO];kernel_rfl
section
variable {prog:Program}{w:World}{A:Around}{E:Value->Shared->Prop}{s:Shared}
theorem zN6 {R:Result->Shared->Prop}{I l:Addr}{items:Array Value}(hh:A.handled=none) (hne:l≠I) (hit:s.heap.IsRevIter I l ((items.size:Int)-1)) (hl:s.heap.IsList l items)
  (S:Addr) (res:Value) (c₀:Nat) (hSI:S≠I) (hSl:S≠l) (hS:s.heap.get? S=some { cls:=.type "list",data:=.seq #[] c₀ }) (hn:items.size<=sizeLine)
  (hR:∀h' tk acc' c',(∀b o,b≠S->b≠I->s.heap.get? b=some o->h'.get? b=some o)->h'.get? S=some { cls:=.type "list",dict:=none,data:=.seq acc' c',slots:=#[] }->
   ItemsOf (fun i v=>items[items.size-1-i]?=some v) acc' items.size->R (.ok (.ret res)) { s with heap:=h',toks:=tk }):
  wpAny (model prog w) A.in1 (Builtin.List.listExtendWith (.ref S) (.ref I) res)
   (fun fin s'=>match fin with|.done f=>R (.ok f) s'|.again c'=>c'.quiet=true/\codeAny (model prog w) A c' R s') (fun e s'=>R (.error e) s') s:=by
 have W:=(Walks.listRev (prog:=prog) (w:=w) (A:=A.in1) hh I l hne items).toS
 have st:0<=items.size/\s.heap.IsRevIter I l ((items.size:Int)-1-((0:Nat):Int))/\s.heap.IsList l items:=⟨vf _,by simpa using hit,hl⟩
 have hT:s.TypeIs (.ref I) "list_reverseiterator":=hit.typeIs
 have hSf:S ∉ [I,l]:=fun hm=>by
  rcases xm.mp hm with z|z
  ·exact hSI z
  ·exact hSl (xV.mp z)
 have h1:Builtin.List.listSameRef (.ref S) (.ref I)=false:=by simp[Builtin.List.listSameRef,hSI]
 unfold Builtin.List.listExtendWith
 refine xa (uc hT ?_)
 rw[xf (by rw[h1];decide)]
 refine xa (wpAny_pyIter_revIter hit ?_)
 refine xa (xF ?_)
 unfold Builtin.List.listLengthHint
 refine xa (uy hT zRy ?_)
 show wpAny _ A.in1 (specialOf (Value.ref I) (Str.ofString "__length_hint__") >>= _) _ _ _
 refine xa (uy hT zWh ?_)
 (generalize hid:("list_reverseiterator.__length_hint__":String)=id0;(fail_if_success (clear hid id0));wp_delta;rw[show splitId id0=some ("list_reverseiterator","__length_hint__")from by subst hid;decide +kernel];subst hid)
 refine xa (yc (b:=true) hT (by rw[isSubtype_type];kernel_rfl) ?_)
 refine xg ?_
 rw[xf (by decide)]
 refine xg ⟨uP yd _,codeAny_extend_loopS W hn _ hSf _ items.size 0 _ _ _ rfl (vf _) st hS (ItemsOf.nil _) fun s' acc' c' hm hS' hacc=>?_⟩
 rw[Moved.eq_with hm]
 refine hR s'.heap s'.toks acc' c' (fun b o hb hb' e=>hm.heap b o (fun hmem=>?_) e) hS' hacc
 rcases xm.mp hmem with z|z
 ·exact hb z
 ·exact hb' (xV.mp z)
theorem zSc {R:Result->Shared->Prop}{I l:Addr}{items:Array Value}(hh:A.handled=none) (hne:l≠I) (hit:s.heap.IsRevIter I l ((items.size:Int)-1)) (hl:s.heap.IsList l items)
  (S:Addr) (hSI:S≠I) (hSl:S≠l) (hS:s.heap.get? S=some { cls:=.type "list",data:=.seq #[] }) (hn:items.size<=sizeLine)
  (hR:∀h' tk acc' c',(∀b o,b≠S->b≠I->s.heap.get? b=some o->h'.get? b=some o)->h'.get? S=some { cls:=.type "list",dict:=none,data:=.seq acc' c',slots:=#[] }->
   ItemsOf (fun i v=>items[items.size-1-i]?=some v) acc' items.size->R (.ok (.ret .none)) { s with heap:=h',toks:=tk }):
  wpAny (model prog w) A.in1 (Builtin.«list.__init__» ⟨[.ref S,.ref I],[]⟩)
   (fun fin s'=>match fin with|.done f=>R (.ok f) s'|.again c'=>c'.quiet=true/\codeAny (model prog w) A c' R s') (fun e s'=>R (.error e) s') s:=by
 show wpAny _ A.in1 (do let old <- Builtin.List.listItems (.ref S);Builtin.List.listUpdate (.ref S) (fun _=>#[]);letGo old.toList.reverse;Builtin.List.listExtendWith (.ref S) (.ref I) .none) _ _ s
 refine xa ?_
 unfold Builtin.List.listItems
 refine xa (vm hS rfl (xg ?_))
 show wpAny _ A.in1 (updateSeq S (fun _=>#[]) >>= fun _=>letGo (#[]:Array Value).toList.reverse >>= fun _=>Builtin.List.listExtendWith (.ref S) (.ref I) .none) _ _ s
 refine xa (ye hS rfl ?_)
 have hS₂:=vJ (Obj.mapSeq (fun _=>(#[]:Array Value))) hS rfl
 have oth:∀b o,b≠S->s.heap.get? b=some o->(s.heap.update S (Obj.mapSeq (fun _=>(#[]:Array Value)))).get? b=some o:=
  fun b o hb e=>(uq _ _ (xo hb)).trans e
 refine xa (wpAny_letGo ?_)
 refine zN6 hh hne (hit.at fun o e=>oth I o (xo hSI) e) (hl.at fun o e=>oth l o (xo hSl) e) S .none _ hSI hSl hS₂ hn fun h' tk acc' c' hk hS' hacc=>?_
 exact hR h' tk acc' c' (fun b o hb hb' e=>hk b o hb hb' (oth b o hb e)) hS' hacc
theorem call_list_rev {Q:Value->Shared->Prop}{I l:Addr}{items:Array Value}(hh:A.handled=none) (hne:l≠I) (hit:s.heap.IsRevIter I l ((items.size:Int)-1)) (hl:s.heap.IsList l items) (hn:items.size<=sizeLine)
  (hQ:∀h' tk acc' c',(∀b o,b≠I->s.heap.get? b=some o->h'.get? b=some o)->h'.get? s.heap.objs.size=some { cls:=.type "list",dict:=none,data:=.seq acc' c',slots:=#[] }->
   ItemsOf (fun i v=>items[items.size-1-i]?=some v) acc' items.size->Q (.ref s.heap.objs.size) { s with heap:=h',toks:=tk }):wpAny (model prog w) A (call (.type "list") [.ref I]) Q E s:=by
 refine callType_codes (Q₁:=fun obj s₁=>obj=.ref s.heap.objs.size/\s₁={ s with heap:=s.heap.push { cls:=.type "list",data:=.seq #[] } }) F.called_list (F.typeCall_list_1 _) F.entry_list_init
  (code_list_new _ ⟨rfl,rfl⟩) fun obj s₁ h₁=>?_
 obtain⟨rfl,rfl⟩:=h₁
 have hS:(s.heap.push { cls:=.type "list",data:=.seq #[] }).get? s.heap.objs.size=some { cls:=.type "list",data:=.seq #[] }:=xu _ rfl
 have nI:s.heap.objs.size≠I:=by obtain⟨o,ho,_⟩:=hit;exact xo (xq (xl ho))
 have nl:s.heap.objs.size≠l:=by obtain⟨o,ho,_⟩:=hl;exact xo (xq (xl ho))
 refine⟨⟨_,hS,rfl⟩,F.args_list_init_2 _ _,zSc (A:=A.in1) hh hne (hit.at fun o e=>xj _ e) (hl.at fun o e=>xj _ e) _ nI nl hS hn fun h' tk acc' c' hk hS' hacc=>?_⟩
 exact⟨rfl,hQ h' tk acc' c' (fun b o hb e=>hk b o (xq (xl e)) hb (xj _ e)) hS' hacc⟩
end
end LX
namespace L2
open PySem PySem.Spec PyProof.Rows
section
variable {X:Cx}
noncomputable def zHw (K:PySem.W.Frag) (te:TE):TE:=fun σ H Q=>te σ H fun x H1=>∃a xs,x=.ref a/\SqL K H1 a xs/\∀l,H1 l=none->Q (.ref l) (upd H1 l (.lst xs.reverse))
theorem zJz {xs:List V}{its:List Value}{acc:Array Value}(r:Vals xs its) (h:ItemsOf (fun i v=>its.toArray[its.toArray.size-1-i]?=some v) acc its.toArray.size):acc.toList=its.reverse:=by
 obtain⟨hs,hi⟩:=h
 have hs':acc.size=its.length:=by simpa using hs
 refine List.ext_getElem? fun j=>?_
 rcases xJ j its.length with hj|hj
 ·have e1:acc[j]?=some (acc[j]'(by nofun)):=va (by nofun)
  have e2:=hi j _ e1
  rw[yr,e1,List.getElem?_reverse hj,<- e2]
  simp
 ·rw[vK (by simpa[hs']using hj),vK (by simpa using hj)]
theorem zMp {e:Expr}{te:TE}{p p2 pos pos2:Pos}(hc:X.calm=true) (he:PE X e te) (hgl:Gl X "list") (hml:X.mg "list"=none) (hgr:Gl X "reversed") (hmr:X.mg "reversed"=none)
  (hs:starEach [e] X.env=[(false,eval e X.env)]:=by rfl)
  (hs2:starEach [Expr.Call (.Name "reversed" p2) [e] [] pos2] X.env=[(false,eval (.Call (.Name "reversed" p2) [e] [] pos2) X.env)]:=by rfl):
  PE X (.Call (.Name "list" p) [.Call (.Name "reversed" p2) [e] [] pos2] [] pos) (zHw X.K te):=by
 intro pins s σ H Q I h
 refine ua (zDk I hgl hml yt ?_)
 refine v9 ?_ hs2 rfl
 rw[hs2]
 show wpAny _ _ (spliced ((false,eval (.Call (.Name "reversed" p2) [e] [] pos2) X.env)::backTo pos [])) _ _ s
 refine uI ?_
 refine ua (zDk I hgr hmr PyProof.Rows.boot_reversed ?_)
 refine v9 ?_ hs rfl
 rw[hs]
 show wpAny _ _ (spliced ((false,eval e X.env)::backTo pos2 [])) _ _ s
 refine uI (thn (he pins s σ H _ I h) fun u s1 hq1=>?_)
 obtain⟨x,H1,I1,r1,a,xs,ex,hq,q⟩:=hq1
 subst ex
 cases r1
 refine uH ?_
 obtain⟨its,rv,pl,hz⟩:=I1.list hq
 refine call_reversed_list pl.isList ?_
 refine uH ?_
 have I2:Inv X pins σ H1 { s1 with heap:=s1.heap.push (revObj a ((its.toArray.size:Int)-1)) }:=I1.kept (t':=s1.toks) fun b o e=>xj _ e
 have hne:a≠s1.heap.objs.size:=by obtain⟨o,ho,_⟩:=pl.isList;exact xq (xl ho)
 refine LX.call_list_rev (items:=its.toArray) (I.ok.hd hc) hne ⟨_,xu _ rfl,rfl,rfl⟩ (pl.isList.at fun o e=>xj _ e) (by simpa[<- rv.length]using hz) fun h' tk acc c kp ho hi=>?_
 have hfr:H1 s1.heap.objs.size=none:=I1.hok.fresh (xh _)
 have fp:FpOk X pins H1 s1.heap.objs.size:=I1.fpOk (xh _) hfr
 have I3:Inv X pins σ H1 { s1 with heap:=h',toks:=tk }:=Inv.turned (s:={ s1 with heap:=s1.heap.push (revObj a ((its.toArray.size:Int)-1)) }) (it:=s1.heap.objs.size) (h':=h') (t':=tk) I2 (fun b o hb e=>kp b o hb e) fp.1 fp.2.1 fp.2.2.2.1 fp.2.2.2.2.1 fp.2.2.2.2.2
 generalize hDD:(s1.heap.push (revObj a ((its.toArray.size:Int)-1))).objs.size=D at ho ⊢
 have hD:H1 D=none:=by rw[<- hDD];exact I2.hok.fresh (xh _)
 have fD:FpOk X pins H1 D:=I2.fpOk (by rw[<- hDD];exact xh _) hD
 have e1:acc.toList=its.reverse:=zJz rv hi
 have ho':h'.get? D=some { cls:=.type "list",dict:=none,data:=.seq (its.reverse).toArray c,slots:=#[] }:=by rw[ho,<- e1]
 have hok:HOk X.prog X.w (upd H1 D (.lst xs.reverse)) h':=HOk.adopt I3.hok hD ⟨by rw[uz];exact hz,_,_,rv.reverse,ho'⟩
 have I4:Inv X pins σ (upd H1 D (.lst xs.reverse)) { s1 with heap:=h',toks:=tk }:=by
  refine Inv.call' (s:={ s1 with heap:=s1.heap.push (revObj a ((its.toArray.size:Int)-1)) }) (s':={ s1 with heap:=h',toks:=tk }) (ch:=[s1.heap.objs.size]) I2 rfl ?_ hok I3.bare fun b hb=>?_
  ·have ne:∀b,b ∉ [s1.heap.objs.size]->b≠s1.heap.objs.size:=fun b hb z=>hb (by simp[z])
   exact⟨fun b o e _ _ hx=>kp b o (ne b hx) e,fun b o e _ _ hx=>⟨o.slots,kp b o (ne b hx) e⟩,fun b o e n _=>by
     rw[zAm (xq (xr (xl e) (by rw[<- hDD];exact xh _)))];exact n,fun b o e hx=>⟨o,kp b o (ne b hx) e⟩,
    fun b ys e=>by rw[zAm (zAo e hD)];exact e,fun b o u e=>by rw[zAm (zAo e hD)];exact e,fun b ps e=>⟨#[],by rw[zAm (zAo e hD),e];simp⟩⟩
  ·have e:b=s1.heap.objs.size:=by simpa using hb
   subst e
   exact⟨fp.2.2.2.1,fp.2.1,fp.2.2.2.2.1,fp.2.2.2.2.2⟩
 exact⟨.ref D,_,I4,rfl,q D hD⟩
theorem zHv {A:Around}{P:Program}{w:World}{bs:List Bool}{its:List Value}(r:Vals (bs.map V.bl) its):TruthOf P w A (fun i v=>its.toArray[i]?=some v) (fun i=>bs.getD i false):=by
 intro i v s Q E hv hq
 have hv':its[i]?=some v:=by simpa using hv
 have hlt:i<its.length:=(xx.mp hv').1
 have hl:=r.length
 rw[xn]at hl
 have hb:(bs.map V.bl)[i]?=some (V.bl (bs[i]'(by nofun))):=by rw[xK,xp (by nofun)];rfl
 obtain⟨u,hu,ru⟩:=r.get hb
 rw[hv']at hu
 cases hu
 cases ru
 dsimp only at hq
 rw[vL,xp (by nofun)]at hq
 exact uF hq
theorem zH6:∀bs:List Bool,((List.range bs.length).all fun i=>bs.getD i false)=bs.all id:=by
 intro bs
 rw[uQ,vv,vv]
 constructor
 ·intro h b hb
  obtain⟨i,hi,rfl⟩:=vw.mp hb
  have:=h i (xC.mpr hi)
  simpa[vL,hi]using this
 ·intro h i hi
  have hi':=xC.mp hi
  have:=h bs[i] (v5 hi')
  simpa[vL,hi']using this
theorem zQh (hc:X.calm=true):zCb X (.builtin "all") (fun xs H Q=>∃(p:Addr) (bs:List Bool),xs=[.ref p]/\SqL X.K H p (bs.map V.bl)/\Q (.bl (bs.all id)) H):=by
 intro pins s σ H xs us Q I r h
 obtain⟨p,bs,rfl,hq,q⟩:=h
 obtain⟨u,rfl,rx⟩:=vals1 r
 cases rx
 obtain⟨its,rv,pl,hz⟩:=I.list hq
 have hl:=rv.length
 rw[xn]at hl
 have hne:p≠s.heap.objs.size:=by obtain⟨o,ho,_⟩:=pl.isList;exact xq (xl ho)
 refine call_all_walk (yf pl.isList ?_)
 refine⟨_,_,_,_,_,_,_,rfl,Walks.list (A:=X.A.in1) (I.ok.hd hc) _ p hne its.toArray,⟨⟨_,xu _ rfl,rfl,rfl⟩,pl.isList.at fun o e=>xj _ e⟩,zHv rv,fun h' tk hk=>?_⟩
 have hfr:H s.heap.objs.size=none:=I.hok.fresh (xh _)
 have fp:FpOk X pins H s.heap.objs.size:=I.fpOk (xh _) hfr
 have e:((List.range its.toArray.size).all fun i=>bs.getD i false)=bs.all id:=by rw[xv,<- hl];exact zH6 bs
 rw[e]
 exact⟨.bl (bs.all id),H,Inv.turned (it:=s.heap.objs.size) (h':=h') (t':=tk) (I.kept (t':=s.toks) fun b o e=>xj _ e) (fun b o hb e=>hk b o (by simpa using hb) e) fp.1 fp.2.1 fp.2.2.2.1 fp.2.2.2.2.1 fp.2.2.2.2.2,rfl,q⟩
end
end L2
namespace L2
open PySem PySem.Spec PyProof.Rows
inductive Dv where
 | non|bl (b:Bool)|int (i:Int)|str (x:Str)|tup (l:List Dv)|lst (l:List Dv)
mutual
noncomputable def Dv.cmp:Dv->Dv->Bool
 | .non,.non=>true
 | .bl _,.bl _=>true
 | .int _,.int _=>true
 | .str _,.str _=>true
 | .tup a,.tup b=>cmpL a b
 | .lst a,.lst b=>cmpL a b
 | _,_=>false
noncomputable def cmpL:List Dv->List Dv->Bool
 | a::r,b::t=>a.cmp b && cmpL r t
 | _,_=>true
end
section
variable {X:Cx}{pins:List (Addr × Obj)}{σ:St}{H:Hp}{s:Shared}
noncomputable def gLst (K:PySem.W.Frag) (n:Nat) (t:TGs):TG:=fun v σ H Q=>∃a xs,v=.ref a/\SqL K H a xs/\xs.length=n/\t xs σ H Q
theorem zM4 {prog:Program}{w:World}{A:Around}{E:Value->Shared->Prop}{it t:Addr}{items:Array Value}(hne:t≠it):∀(n i:Nat) (s:Shared) (Q:List Value->Shared->Prop),s.heap.IsListIter it t i->s.heap.IsList t items->i+n<=items.size->
  (∀h',h'.IsListIter it t (i+n)->Heap.SameBut it s.heap h'->Q ((items.toList.drop i).take n) { s with heap:=h' })->wpAny (model prog w) A (draw (.ref it) n) Q E s
 | 0,i,s,Q,hit,_,_,hQ=>by
  show wpAny _ _ (pure []) Q E s
  exact xg (by simpa using hQ s.heap hit (Heap.SameBut.refl ..))
 | n+1,i,s,Q,hit,ht,hle,hQ=>by
  have hlt:i<items.size:=by nofun
  show wpAny _ _ (pyNext (.ref it) >>= _) Q E s
  refine xa (wpAny_pyNext_list_item hit ht (x:=items[i]) (by simp[hlt]) fun h₁ hit₁ hs₁=>?_)
  refine xa (xF (zM4 hne n (i+1) { s with heap:=h₁ } _ hit₁ (ht.at fun o e=>hs₁.extBut t o hne e) (by nofun) fun h₂ hit₂ hs₂=>xg ?_))
  have hd:items.toList.drop i=items[i]::items.toList.drop (i+1):=by simp[List.drop_eq_getElem_cons,hlt]
  have:=hQ h₂ (by rw[show i+(n+1)=i+1+n by nofun];exact hit₂) (hs₁.trans hs₂)
  rw[hd,List.take_succ_cons]at this
  exact this
theorem zG6 {prog:Program}{w:World}{A:Around}{E:Value->Shared->Prop}{s:Shared}{t:Addr}{items:Array Value}{Q:List Value->Shared->Prop}(hh:A.handled=none) (ht:s.heap.IsList t items)
  (hQ:∀h',Heap.ExtBut s.heap.objs.size s.heap h'->Q items.toList { s with heap:=h' }):wpAny (model prog w) A (unpackItems (.ref t) items.size none) Q E s:=by
 have hlt:t≠s.heap.objs.size:=by obtain⟨o,ho,_⟩:=ht;exact xq (xl ho)
 unfold unpackItems
 refine xa ?_
 ·unfold notIterableAtAll
  refine xa (uy ht.typeIs slot_list_iter.lookup ?_)
  refine xg ?_
  simp only[x9,xO]
  refine xa (xF (yf ht ?_))
  refine xa (xF (zM4 hlt items.size 0 _ _ ⟨_,xu _ rfl,rfl,rfl⟩ (ht.at fun o e=>xj _ e) (by nofun) fun h₁ hit₁ hs₁=>?_))
  have hall:List.take items.size (List.drop 0 items.toList)=items.toList:=by
   rw[List.drop_zero];exact List.take_of_length_le (by simp)
  rw[hall]
  rw[xf (by simp)]
  have ht₁:h₁.IsList t items:=ht.at fun o e=>hs₁.extBut t o hlt (xj _ e)
  refine xa (xF (wpAny_pyNext_list_end hh hit₁ ht₁ (by simp) fun h₂ he₂=>?_))
  simp only[Option.isSome_none,x9,xO]
  refine xg (hQ h₂ fun b o hb e=>he₂ b o hb (hs₁.extBut b o hb (xj _ e)))
theorem zY6 {es:List Expr}{k:Nat}{t:TGs}{n:Nat}{pos:Pos}(hc:X.calm=true) (h:PGs X es t)
  (hn:(assignEach es X.env).length=n:=by rfl) (hst:(assignEach es X.env).findIdx? (·.1)=none:=by rfl):PG X (.Tuple es k pos) (gLst X.K n t):=by
 intro pins s σ H v u Q I r hw
 obtain⟨a,xs,e1,hq,hl,hw⟩:=hw
 subst e1
 cases r
 obtain⟨its,rv,ht,hz⟩:=I.list hq
 rw[assign_Tuple]
 refine xa (wpAny_standAt ?_)
 unfold unpack
 rw[hst,hn,show n=its.toArray.size by rw[xv,<- rv.length,hl]]
 refine xa (xF (zG6 (I.ok.hd hc) ht.isList fun h' hx=>?_))
 have I1:Inv X pins σ H { s with heap:=h' }:=I.kept (t':=s.toks) fun b o e=>hx b o (xq (xl e)) e
 exact h pins _ σ H xs _ Q I1 (by simpa using rv) hw
end
end L2
namespace L2
open PySem PySem.Spec PyProof.Rows
structure Cal (P:Program) (w:World) (K:PySem.W.Frag) (mg:Str->Option Value) (base:Heap) (x:Str) (k:Nat) (ps:List Str) (sp:Sp):Prop where
 ex:∃f fd,FnOk P w K mg base CX0 k f fd ps sp/\mg x=some (.ref f)/\PySem.W.keepIn K (.ref f)=true/\Binds K fd ps []
section
variable {X:Cx}{x:Str}{k:Nat}{ps:List Str}{sp:Sp}{e:Expr}{es:List Expr}{t:TA}{p pos:Pos}
theorem zYi (C:Cal X.prog X.w X.K X.mg X.base x k ps sp) (hr:Room k X.A) (hg:Gl X x) (ha:PA X (e::es) t) (hdb:(x == ("__debug__":Str))=false:=by decide)
  (hs:starEach (e::es) X.env=(false,eval e X.env)::starEach es X.env:=by rfl) (hpl:(backTo pos (starEach es X.env)).any (·.1)=false:=by rfl):
  PE X (.Call (.Name x p) (e::es) [] pos) (zQw sp [] E0 t):=by
 obtain⟨f,fd,F,hm,hk,hb⟩:=C.ex
 exact zVi F hr hg hm hk hb .nil pass0 ha hdb hs hpl
end
structure yAz (s n:Int) (ls:List Int):Prop where
 s0:0<=s
 s1:s<2147483647
 n0:0<=n
 all:∀i∈ls,0<=i
 len:ls.length<=100
end L2
namespace L2
open PySem PySem.Spec PyProof.Rows
noncomputable def nst:Expr->Bool
 | .Starred ..=>false
 | _=>true
theorem zB9 {e:Expr}{es:List Expr}{env:Env}(h:nst e=true):starEach (e::es) env=(false,eval e env)::starEach es env:=by
 cases e <;> first|rfl|cases h
theorem zGt {env:Env}{pos:Pos}:∀{es:List Expr},es.all nst=true->(backTo pos (starEach es env)).any (·.1)=false
 | [],_=>rfl
 | e::es,h=>by
  simp only[uA,xM]at h
  rw[zB9 h.1]
  show(false || (backTo pos (starEach es env)).any (·.1))=false
  rw[zGt h.2];rfl
noncomputable def nsl:Expr->Bool
 | .Slice ..=>false
 | _=>true
theorem zRd {b:Expr}(h:nsl b=true):zQs b:=fun o i=>by cases b <;> first|rfl|cases h
noncomputable def nco:Expr->Bool
 | .ListComp ..|.SetComp ..|.DictComp ..=>false
 | _=>true
theorem zHx {e:Expr}{tg:Option Expr}{l:Nat}{env:Env}(h:nco e=true):swapsWith e tg l env=pure false:=by cases e <;> first|rfl|cases h
theorem zUg {e:Expr}{tg:Expr}{l:Nat}{env:Env}(h:nco e=true):swapsWithSole [tg] e l env=pure false:=zHx h
theorem zHy {e:Expr}{es:List Expr}{k:Nat}{p:Pos}{l:Nat}{env:Env}:swapsWithSole [.Tuple es k p] e l env=pure false:=by
 show swapsWith e (some (.Tuple es k p)) l env=pure false
 cases e <;> rfl
noncomputable def ntu:Expr->Bool
 | .Tuple ..=>false
 | _=>true
theorem zNw {e:Expr}{tg:Expr}{env:Env}(h:ntu e=true):swappedStores [tg] e env=pure none:=by
 cases tg with
 | Tuple _ _ _=>cases e with
  | Tuple _ _ _=>cases h
  | _=>rfl
 | List _ _=>cases e with
  | Tuple _ _ _=>cases h
  | _=>rfl
 | _=>rfl
theorem zH0 {tg:Expr}{es:List Expr}{env:Env}(h:nst tg=true):(assignEach (tg::es) env).map (·.2)=assign tg env::(assignEach es env).map (·.2):=by cases tg <;> first|rfl|cases h
theorem zBc {env:Env}:∀{es:List Expr},es.all nst=true->(assignEach es env).length=es.length/\(assignEach es env).findIdx? (·.1)=none
 | [],_=>⟨rfl,rfl⟩
 | e::es,h=>by
  simp only[uA,xM]at h
  obtain⟨h1,h2⟩:=zBc (env:=env) h.2
  have e1:assignEach (e::es) env=(false,assign e env)::assignEach es env:=by
   have:=h.1
   cases e <;> first|rfl|cases this
  rw[e1]
  refine⟨by rw[xY,h1,xY],?_⟩
  rw[List.findIdx?_cons]
  simp[h2]
noncomputable def nse:Expr->Bool
 | .Set ..=>false
 | _=>true
theorem zI0 {e:Expr}{env:Env}(h:nse e=true) (x:Value):foldedSetIterable e env x=pure x:=by cases e <;> first|rfl|cases h
noncomputable def nba:Expr->Bool
 | .Call ..=>false
 | _=>true
theorem zGs {o:Expr}{m:Str}{env:Env}(h:nba o=true):attributeBase o m env (eval o env)=eval o env:=by cases o <;> first|rfl|cases h
noncomputable def ntt:Expr->Bool
 | .UnaryOp ..|.BoolOp ..|.IfExp ..|.Compare ..=>false
 | _=>true
theorem zU8 {e:Expr}{env:Env}(h:ntt e=true) (whole:Sem Value):isTrue e env whole=(do let v <- whole;standAt e.pos;holding [v] (truthy v)):=by cases e <;> first|rfl|cases h
section
variable {X:Cx}{e o i a b:Expr}{es:List Expr}{te ta tb to ti:TE}{t:TA}{p pos cpos apos:Pos}
theorem qa (ha:PE X e te) (hr:PA X es t) (h:nst e=true:=by rfl):PA X (e::es) (zUb te t):=zVl ha hr (zB9 h)
theorem qix {r:R2}(hr:IxR X r) (ha:PE X a ta) (hb:PE X b tb) (h:nsl b=true:=by rfl):PE X (.Subscript a b pos) (tOp r ta tb):=yAj hr ha hb (zRd h)
theorem qcal {x:Str}{k:Nat}{ps:List Str}{sp:Sp}(C:Cal X.prog X.w X.K X.mg X.base x k ps sp) (hr:Room k X.A) (hg:Gl X x) (ha:PA X (e::es) t) (hdb:(x == ("__debug__":Str))=false:=by decide)
  (h:(e::es).all nst=true:=by rfl):PE X (.Call (.Name x p) (e::es) [] pos) (zQw sp [] E0 t):=by
 simp only[uA,xM]at h
 exact zYi C hr hg ha hdb (zB9 h.1) (zGt h.2)
theorem zXv {x:Str}{id:String}{r:List V->Hp->VK->Prop}(hc:zCb X (.builtin id) r) (hg:Gl X x) (hm:X.mg x=none) (hv:bootBuiltins x=some (.builtin id)) (ha:PA X (e::es) t) (hn:x≠"__name__":=by decide) (hdb:(x == ("__debug__":Str))=false:=by decide)
  (h:(e::es).all nst=true:=by rfl):PE X (.Call (.Name x p) (e::es) [] pos) (tCB r t):=by
 simp only[uA,xM]at h
 exact zRq hc hg hm hv ha hn hdb (zB9 h.1) (zGt h.2)
theorem zXu {x:Str}{T:String}{r:List V->Hp->VK->Prop}(hc:zCb X (.type T) r) (hg:Gl X x) (hm:X.mg x=none) (hv:bootBuiltins x=some (.type T)) (ha:PA X (e::es) t) (hn:x≠"__name__":=by decide) (hdb:(x == ("__debug__":Str))=false:=by decide)
  (h:(e::es).all nst=true:=by rfl):PE X (.Call (.Name x p) (e::es) [] pos) (tCB r t):=by
 simp only[uA,xM]at h
 exact zOv hc hg hm hv ha hn hdb (zB9 h.1) (zGt h.2)
theorem qtruth (ha:PE X e te) (h:ntt e=true:=by rfl):PT X e (fun σ H Q=>te σ H fun x H1=>∃k,TruV X.K x H1 k/\Q k H1):=zR4 ha (zU8 h)
theorem qset {j:Nat}{x:Str}{pos':Pos}(hN:X.N.Nodup) (hi:X.N[j]?=some x) (hx:Loc X.env.scope x) (he:PE X e te) (hf:X.fn x=true\/X.env.scope.names.lookup x=some .local:=by first|exact .inl rfl|exact .inr rfl|assumption) (h:nco e=true:=by rfl):
  PS X (.Assign [.Name x pos'] e pos) (tAsg te (gName j)):=zTa hN hi hx he (zHx h) hf
theorem qasgt {ts:List Expr}{k:Nat}{tp:Pos}{g:TG}(he:PE X e te) (hg:PG X (.Tuple ts k tp) g) (h1:ntu e=true:=by rfl):PS X (.Assign [.Tuple ts k tp] e pos) (tAsg te g):=zOf he hg zHy (zNw h1) rfl
theorem qgs {tg:Expr}{ts:List Expr}{g:TG}{gs:TGs}(h1:PG X tg g) (h2:PGs X ts gs) (h:nst tg=true:=by rfl):PGs X (tg::ts) (zWk g gs):=zRh h1 h2 (zH0 h)
theorem qtup {ts:List Expr}{k n:Nat}{gs:TGs}(hc:X.calm=true) (h:PGs X ts gs) (hn:ts.length=n:=by rfl) (h1:ts.all nst=true:=by rfl):PG X (.Tuple ts k pos) (gTup X.K n gs):=zY7 hc h ((zBc h1).1.trans hn) (zBc h1).2
theorem qunl {ts:List Expr}{k n:Nat}{gs:TGs}(hc:X.calm=true) (h:PGs X ts gs) (hn:ts.length=n:=by rfl) (h1:ts.all nst=true:=by rfl):PG X (.Tuple ts k pos) (gLst X.K n gs):=zY6 hc h ((zBc h1).1.trans hn) (zBc h1).2
theorem qfor {tg iter:Expr}{body:List Stmt}{wi:TI}{g:TG}{tb:TS}(hp:PassesOwn (model X.prog X.w) X.A X.env X.xe) (hc:X.calm=true) (hi:PI X tg iter wi) (hg:PG X tg g) (hb:PSs X body tb) (h:nse iter=true:=by rfl):
  PS X (.For tg iter body [] pos) (tFor wi g tb):=zY5 hp hc hi hg hb (zI0 h)
theorem qexpr (he:PE X e te) (h:nco e=true:=by rfl):PS X (.Expr e pos) (zUa te):=zV3 he (zHx h)
theorem qlcomp {own fre:List Str}{ix:List Nat}{scope:Scope}{tg elt iter:Expr}{ifs:List Expr}{wi:TI}{g:TG}{tt:TT}(hc:X.calm=true) (S:CompScope X own fre ix scope) (hi:PI X tg iter wi)
  (hg:∀cl C s H fp,PG (zAn X (own++fre) scope cl C s H fp) tg g) (ht:∀cl C s H fp,PIfs (zAn X (own++fre) scope cl C s H fp) ifs tt) (he:∀cl C s H fp,PE (zAn X (own++fre) scope cl C s H fp) elt te)
  (h:nse iter=true:=by rfl):PE X (.ListComp elt [⟨tg,iter,ifs,0⟩] scope pos) (zK2 own ix wi g tt te):=zRk hc S hi hg ht he (zI0 h)
theorem qsetc {own fre:List Str}{ix:List Nat}{scope:Scope}{j:Nat}{x:Str}{pos':Pos}{tg elt iter:Expr}{ifs:List Expr}{wi:TI}{g:TG}{tt:TT}(hN:X.N.Nodup) (hix:X.N[j]?=some x) (hx:Loc X.env.scope x)
  (hc:X.calm=true) (S:CompScope X own fre ix scope) (hi:PI X tg iter wi)
  (hg:∀cl C s H fp,PG (zAn X (own++fre) scope cl C s H fp) tg g) (ht:∀cl C s H fp,PIfs (zAn X (own++fre) scope cl C s H fp) ifs tt) (he:∀cl C s H fp,PE (zAn X (own++fre) scope cl C s H fp) elt te)
  (hsw:swapsWith (.ListComp elt [⟨tg,iter,ifs,0⟩] scope cpos) (some (.Name x pos')) pos.line X.env=pure true:=by rfl) (h:nse iter=true:=by rfl) (hf:X.fn x=true\/X.env.scope.names.lookup x=some .local:=by first|exact .inl rfl|exact .inr rfl|assumption):
  PS X (.Assign [.Name x pos'] (.ListComp elt [⟨tg,iter,ifs,0⟩] scope cpos) pos) (tAsg (zK2 own ix wi g tt te) (gName j)):=zV1 hN hix hx hc S hi hg ht he hsw (zI0 h) hf
theorem qrange1 {tg:Expr}{ta:TA}(hg:Gl X "range") (hm:X.mg "range"=none) (ha:PA X [a] ta) (h:nst a=true:=by rfl):PI X tg (.Call (.Name "range" p) [a] [] pos) (zWd ta):=zOq hg hm ha (zB9 h)
theorem qrange2 {tg:Expr}{ta:TA}(hg:Gl X "range") (hm:X.mg "range"=none) (ha:PA X [a,b] ta) (h:nst a=true:=by rfl) (h2:nst b=true:=by rfl):PI X tg (.Call (.Name "range" p) [a,b] [] pos) (zWc ta):=
 zOp hg hm ha (by rw[zB9 h,zB9 h2];rfl) (zB9 h2)
theorem qlistrev {p2 pos2:Pos}(hc:X.calm=true) (he:PE X e te) (hgl:Gl X "list") (hml:X.mg "list"=none) (hgr:Gl X "reversed") (hmr:X.mg "reversed"=none) (h:nst e=true:=by rfl):
  PE X (.Call (.Name "list" p) [.Call (.Name "reversed" p2) [e] [] pos2] [] pos) (zHw X.K te):=zMp hc he hgl hml hgr hmr (zB9 h) rfl
theorem qbm0 {T name id:_}{r:V->List V->Hp->VK->Prop}(pa:PlainAttrs T) (slot:Slot T name id) (hty:typeOf (.builtin id)=pure (.type "method_descriptor")) (hm:MtR X id r) (ho:PE X o to) (h:nba o=true:=by rfl) (hline:(apos.endLine == cpos.line)=true:=by rfl):
  PE X (.Call (.Attribute o name apos) [] [] cpos) (tBM0 X.K T r to):=zYj pa slot hty hm ho (zGs h) hline
theorem qpar {x y:Str}{px py pt pt2:Pos}{kt k2 i j:Nat}{ta:TA}(hc:X.calm=true) (hN:X.N.Nodup) (hi:X.N[i]?=some x) (hj:X.N[j]?=some y) (hij:i≠j)
  (hx:X.env.scope.names.lookup x=some .local) (hy:X.env.scope.names.lookup y=some .local) (ha:PA X [a,b] ta)
  (hw:swappedStores [.Tuple [.Name x px,.Name y py] kt pt] (.Tuple [a,b] k2 pt2) X.env=pure (some [x,y])):
  PS X (.Assign [.Tuple [.Name x px,.Name y py] kt pt] (.Tuple [a,b] k2 pt2) pos) (tPar i j ta):=zY3 hc hN hi hj hij hx hy ha hw zHy
end
end L2
namespace L2
open PySem PySem.Spec PyProof.Rows
structure SE (X:Cx) (e:Expr) (t:TE):Prop where h:PE X e t
structure ST (X:Cx) (e:Expr) (t:TT):Prop where h:PT X e t
structure SW (X:Cx) (e:Expr) (t:TT):Prop where h:PW X e t
structure SA (X:Cx) (es:List Expr) (t:TA):Prop where h:PA X es t
structure SS (X:Cx) (st:Stmt) (t:TS):Prop where h:PS X st t
structure SSs (X:Cx) (st:List Stmt) (t:TS):Prop where h:PSs X st t
structure SG (X:Cx) (e:Expr) (t:TG):Prop where h:PG X e t
structure SGs (X:Cx) (es:List Expr) (t:TGs):Prop where h:PGs X es t
structure SI (X:Cx) (tg e:Expr) (t:TI):Prop where h:PI X tg e t
structure SIfs (X:Cx) (es:List Expr) (t:TT):Prop where h:PIfs X es t
structure SO (X:Cx) (e:Option Expr) (t:TO):Prop where h:PO X e t
structure SPs (X:Cx) (pos:Pos) (ks:List (Option Expr)) (vs:List Expr) (t:List (TE × TE)):Prop where h:PPs X pos ks vs t
section
variable {X:Cx}{e o i a b c:Expr}{es:List Expr}{te ta tb tc to ti tv td ty:TE}{t:TA}{p pos cpos apos:Pos}{tA tB':TT}
theorem pv' (i:Nat) {x:Str}{pos:Pos}(hN:X.N[i]?=some x:=by rfl) (hv:Vis X.env.scope x:=by first|exact Or.inl rfl|exact Or.inr (Or.inl rfl)|exact Or.inr (Or.inr rfl)) (hd:(x == ("__debug__":Str))=false:=by decide)
  (hcd:(x == ("__classdict__":Str))=false:=by decide):SE X (.Name x pos) (tVar i):=⟨pv i hN hv hd hcd⟩
theorem zVe {i:Int}{j:Nat}:SE X (.Constant (.int i) j pos) (tC (.int i)):=⟨zYh⟩
theorem zYl {b:Bool}{j:Nat}:SE X (.Constant (.bool b) j pos) (tC (.bl b)):=⟨yAl⟩
theorem zOr {x:Str}{j:Nat}:SE X (.Constant (.str x) j pos) (tC (.str x)):=⟨zYc⟩
theorem zRr {x:Str}{v:V}{u:Value}(hg:Gl X x) (hm:X.mg x=none) (hv:bootBuiltins x=some u) (r:RelV v u) (hn:x≠"__name__":=by decide) (hd:(x == ("__debug__":Str))=false:=by decide):SE X (.Name x pos) (tC v):=⟨zVj hg hm hv r hn hd⟩
theorem zYd {op:Operator}{r:R2}(ho:OpR X (binaryOp op) r) (ha:SE X a ta) (hb:SE X b tb):SE X (.BinOp a op b pos) (tOp r ta tb):=⟨yAi ho ha.h hb.h⟩
theorem zYa {op:UnaryOp}{r:V->Hp->VK->Prop}(ho:UnR X (unaryOp op) r) (ha:SE X a ta):SE X (.UnaryOp op a pos) (tUn r ta):=⟨yAh ho ha.h⟩
theorem zVc (ha:SE X a ta):SE X (.UnaryOp .Not a pos) (zXi ta):=⟨zYf ha.h⟩
theorem zVk (ha:SE X a ta) (hb:SE X (.BoolOp .And (b::es) pos) tb):SE X (.BoolOp .And (a::b::es) pos) (zXl ta tb):=⟨zYm ha.h hb.h⟩
theorem zVb {op:BoolOp}(ha:SE X a ta):SE X (.BoolOp op [a] pos) ta:=⟨zYe ha.h⟩
theorem zOt (hc:ST X c tA) (ha:SE X a ta) (hb:SE X b tb):SE X (.IfExp c a b pos) (tIf tA ta tb):=⟨zRl hc.h ha.h hb.h⟩
theorem zVa {k:Nat}(h:SA X es t):SE X (.Tuple es k pos) (tTup t):=⟨zYb h.h⟩
theorem zVd (h:SA X es t):SE X (.List es pos) (tLst t):=⟨zYg h.h⟩
theorem zRn {keys:List (Option Expr)}{values:List Expr}{trs:List (TE × TE)}(h:SPs X pos keys values trs) (hall:keys.all (·.isSome)=true) (hl:keys.length=values.length) (h0:keys≠[]) (h15:keys.length<=15):SE X (.Dict keys values pos) (zXk trs):=⟨zVg h.h hall hl h0 h15⟩
theorem zR9:SPs X pos [] [] []:=⟨zV4⟩
theorem zOg {k v:Expr}{ks:List (Option Expr)}{vs:List Expr}{tk:TE}{trs:List (TE × TE)}(hk:SE X k tk) (hv:SE X v tv) (hr:SPs X pos ks vs trs):SPs X pos (some k::ks) (v::vs) ((tk,tv)::trs):=⟨zRa hk.h hv.h hr.h⟩
theorem zOs {r:V->Option Int->Option Int->Hp->VK->Prop}{lo hi:Option Expr}{tl th:TO}{p2:Pos}(hr:SlR X r) (he:SE X e te) (hl:SO X lo tl) (hu:SO X hi th):SE X (.Subscript e (.Slice lo hi none p2) pos) (tSl r te tl th):=⟨zRj hr he.h hl.h hu.h⟩
theorem po_none':SO X none zNt:=⟨zV6⟩
theorem zRc (h:SE X e te):SO X (some e) (zXh te):=⟨zV5 h.h⟩
theorem pa_nil':SA X [] tNil:=⟨zYo⟩
theorem qa' (ha:SE X e te) (hr:SA X es t) (h:nst e=true:=by rfl):SA X (e::es) (zUb te t):=⟨qa ha.h hr.h h⟩
theorem qix' {r:R2}(hr:IxR X r) (ha:SE X a ta) (hb:SE X b tb) (h:nsl b=true:=by rfl):SE X (.Subscript a b pos) (tOp r ta tb):=⟨qix hr ha.h hb.h h⟩
theorem qcal' {x:Str}{k:Nat}{ps:List Str}{sp:Sp}(C:Cal X.prog X.w X.K X.mg X.base x k ps sp) (hr:Room k X.A) (hg:Gl X x) (ha:SA X (e::es) t) (hdb:(x == ("__debug__":Str))=false:=by decide)
  (h:(e::es).all nst=true:=by rfl):SE X (.Call (.Name x p) (e::es) [] pos) (zQw sp [] E0 t):=⟨qcal C hr hg ha.h hdb h⟩
theorem zUs {x:Str}{id:String}{r:List V->Hp->VK->Prop}(hc:zCb X (.builtin id) r) (hg:Gl X x) (hm:X.mg x=none) (hv:bootBuiltins x=some (.builtin id)) (ha:SA X (e::es) t) (hn:x≠"__name__":=by decide) (hdb:(x == ("__debug__":Str))=false:=by decide)
  (h:(e::es).all nst=true:=by rfl):SE X (.Call (.Name x p) (e::es) [] pos) (tCB r t):=⟨zXv hc hg hm hv ha.h hn hdb h⟩
theorem zOb {x:Str}{T:String}{r:List V->Hp->VK->Prop}(hc:zCb X (.type T) r) (hg:Gl X x) (hm:X.mg x=none) (hv:bootBuiltins x=some (.type T)) (ha:SA X (e::es) t) (hn:x≠"__name__":=by decide) (hdb:(x == ("__debug__":Str))=false:=by decide)
  (h:(e::es).all nst=true:=by rfl):SE X (.Call (.Name x p) (e::es) [] pos) (tCB r t):=⟨zXu hc hg hm hv ha.h hn hdb h⟩
theorem qlistrev' {p2 pos2:Pos}(hc:X.calm=true) (he:SE X e te) (hgl:Gl X "list") (hml:X.mg "list"=none) (hgr:Gl X "reversed") (hmr:X.mg "reversed"=none) (h:nst e=true:=by rfl):
  SE X (.Call (.Name "list" p) [.Call (.Name "reversed" p2) [e] [] pos2] [] pos) (zHw X.K te):=⟨qlistrev hc he.h hgl hml hgr hmr h⟩
theorem qbm0' {T name id:_}{r:V->List V->Hp->VK->Prop}(pa:PlainAttrs T) (slot:Slot T name id) (hty:typeOf (.builtin id)=pure (.type "method_descriptor")) (hm:MtR X id r) (ho:SE X o to) (h:nba o=true:=by rfl) (hline:(apos.endLine == cpos.line)=true:=by rfl):
  SE X (.Call (.Attribute o name apos) [] [] cpos) (tBM0 X.K T r to):=⟨qbm0 pa slot hty hm ho.h h hline⟩
theorem zMd {env:Env}{pos:Pos}:∀{es:List Expr},es.all nst=true->(backTo pos (starEach es env)).all (fun x=>!x.1)=true
 | [],_=>rfl
 | e::es,h=>by
  simp only[uA,xM]at h
  rw[zB9 h.1]
  show(true && (backTo pos (starEach es env)).all (fun x=>!x.1))=true
  rw[zMd h.2];rfl
theorem zYk {T name id:_}{r:V->List V->Hp->VK->Prop}(pa:PlainAttrs T) (slot:Slot T name id) (hty:typeOf (.builtin id)=pure (.type "method_descriptor")) (hm:MtR X id r) (ho:SE X o to) (ha:SA X (e::es) t) (h:nba o=true:=by rfl) (hs:(e::es).all nst=true:=by rfl)
  (hlen:decide ((e::es).length+0+0<30)=true:=by rfl) (hline:(apos.endLine == cpos.line)=true:=by rfl):SE X (.Call (.Attribute o name apos) (e::es) [] cpos) (tBM X.K T r to t):=by
 have hs':=hs
 simp only[uA,xM]at hs'
 refine⟨yAk pa slot hty hm ho.h ha.h (zGs h) ?_ hline (zB9 hs'.1) (zGt hs'.2)⟩
 rw[zMd hs]
 exact hlen
theorem zRo {op:CmpOp}{r:R2}(ho:OpR X (compareOp op) r) (ha:SE X a ta) (hb:SE X b tb) (hm:behindInMarks op b=false):SE X (.Compare a [op] [b] pos) (tOp r ta tb):=⟨zVh ho ha.h hb.h hm⟩
theorem zR5 {op:CmpOp}{r:R2}(ho:OpR X (compareOp op) r) (ha:SE X a ta) (hb:SE X b tb) (hm:behindInMarks op b=false):ST X (.Compare a [op] [b] pos) (zXg (tOp r ta tb)):=⟨zUy ho ha.h hb.h hm⟩
theorem zOu {op op':CmpOp}{r r':R2}(ho:OpR X (compareOp op) r) (ho':OpR X (compareOp op') r') (ha:SE X a ta) (hb:SE X b tb) (hc:SE X c tc) (hm:lastMarks [op,op'] [b,c]=false:=by with_unfolding_all rfl):SE X (.Compare a [op,op'] [b,c] pos) (zNu r r' ta tb tc):=⟨zRp ho ho' ha.h hb.h hc.h hm⟩
theorem zUx (ha:ST X a tA):ST X (.UnaryOp .Not a pos) (tNot tA):=⟨zY1 ha.h⟩
theorem zR2 (ha:ST X a tA):SW X (.BoolOp .And [a] pos) tA:=⟨zUu ha.h⟩
theorem zUt (ha:ST X a tA):SW X (.BoolOp .Or [a] pos) tA:=⟨zXx ha.h⟩
theorem zUv (ha:ST X a tA) (hb:SW X (.BoolOp .And (b::es) pos) tB'):SW X (.BoolOp .And (a::b::es) pos) (tAnd tA tB'):=⟨zXz ha.h hb.h⟩
theorem zXy (ha:ST X a tA) (hb:SW X (.BoolOp .Or (b::es) pos) tB'):SW X (.BoolOp .Or (a::b::es) pos) (tOr tA tB'):=⟨yAf ha.h hb.h⟩
theorem zXw (h:SW X e tA):ST X e tA:=⟨h.h.pt⟩
noncomputable def tTru (K:PySem.W.Frag) (te:TE):TT:=fun σ H Q=>te σ H fun x H1=>∃k,TruV K x H1 k/\Q k H1
theorem qtruth' (ha:SE X e te) (h:ntt e=true:=by rfl):ST X e (tTru X.K te):=⟨qtruth ha.h h⟩
theorem qrange1' {tg:Expr}{ta:TA}(hg:Gl X "range") (hm:X.mg "range"=none) (ha:SA X [a] ta) (h:nst a=true:=by rfl):SI X tg (.Call (.Name "range" p) [a] [] pos) (zWd ta):=⟨qrange1 hg hm ha.h h⟩
theorem qrange2' {tg:Expr}{ta:TA}(hg:Gl X "range") (hm:X.mg "range"=none) (ha:SA X [a,b] ta) (h:nst a=true:=by rfl) (h2:nst b=true:=by rfl):SI X tg (.Call (.Name "range" p) [a,b] [] pos) (zWc ta):=⟨qrange2 hg hm ha.h h h2⟩
theorem zRi {j:Nat}{x:Str}(hN:X.N.Nodup) (hi:X.N[j]?=some x) (hx:Loc X.env.scope x) (hf:X.fn x=true\/X.env.scope.names.lookup x=some .local:=by first|exact .inl rfl|exact .inr rfl|assumption):SG X (.Name x pos) (gName j):=⟨zV9 hN hi hx hf⟩
theorem pgs_nil':SGs X [] gNil:=⟨zV7⟩
theorem qgs' {tg:Expr}{ts:List Expr}{g:TG}{gs:TGs}(h1:SG X tg g) (h2:SGs X ts gs) (h:nst tg=true:=by rfl):SGs X (tg::ts) (zWk g gs):=⟨qgs h1.h h2.h h⟩
theorem qtup' {ts:List Expr}{k n:Nat}{gs:TGs}(hc:X.calm=true) (h:SGs X ts gs) (hn:ts.length=n:=by rfl) (h1:ts.all nst=true:=by rfl):SG X (.Tuple ts k pos) (gTup X.K n gs):=⟨qtup hc h.h hn h1⟩
theorem qunl' {ts:List Expr}{k n:Nat}{gs:TGs}(hc:X.calm=true) (h:SGs X ts gs) (hn:ts.length=n:=by rfl) (h1:ts.all nst=true:=by rfl):SG X (.Tuple ts k pos) (gLst X.K n gs):=⟨qunl hc h.h hn h1⟩
theorem zV8 {ts:TSet}(ho:SE X o to) (hi:SE X i ti) (hs:PSet X ts) (h:nsl i=true:=by rfl):SG X (.Subscript o i pos) (gSub to ti ts):=by
 refine⟨zY8 ho.h hi.h hs fun v=>?_⟩
 cases i <;> first|rfl|cases h
theorem pifs_nil':SIfs X [] tYes:=⟨zRf⟩
theorem zOm (hc:ST X c tA):SIfs X [c] tA:=⟨zRe hc.h⟩
theorem qlcomp' {own fre:List Str}{ix:List Nat}{scope:Scope}{tg elt iter:Expr}{ifs:List Expr}{wi:TI}{g:TG}{tt:TT}(hc:X.calm=true) (S:CompScope X own fre ix scope) (hi:SI X tg iter wi)
  (hg:∀cl C s H fp,SG (zAn X (own++fre) scope cl C s H fp) tg g) (ht:∀cl C s H fp,SIfs (zAn X (own++fre) scope cl C s H fp) ifs tt) (he:∀cl C s H fp,SE (zAn X (own++fre) scope cl C s H fp) elt te)
  (h:nse iter=true:=by rfl):SE X (.ListComp elt [⟨tg,iter,ifs,0⟩] scope pos) (zK2 own ix wi g tt te):=⟨qlcomp hc S hi.h (fun _ _ _ _ _=>(hg _ _ _ _ _).h) (fun _ _ _ _ _=>(ht _ _ _ _ _).h) (fun _ _ _ _ _=>(he _ _ _ _ _).h) h⟩
theorem qsetc' {own fre:List Str}{ix:List Nat}{scope:Scope}{j:Nat}{x:Str}{pos':Pos}{tg elt iter:Expr}{ifs:List Expr}{wi:TI}{g:TG}{tt:TT}(hN:X.N.Nodup) (hix:X.N[j]?=some x) (hx:Loc X.env.scope x)
  (hc:X.calm=true) (S:CompScope X own fre ix scope) (hi:SI X tg iter wi)
  (hg:∀cl C s H fp,SG (zAn X (own++fre) scope cl C s H fp) tg g) (ht:∀cl C s H fp,SIfs (zAn X (own++fre) scope cl C s H fp) ifs tt) (he:∀cl C s H fp,SE (zAn X (own++fre) scope cl C s H fp) elt te)
  (hsw:swapsWith (.ListComp elt [⟨tg,iter,ifs,0⟩] scope cpos) (some (.Name x pos')) pos.line X.env=pure true:=by rfl) (h:nse iter=true:=by rfl) (hf:X.fn x=true\/X.env.scope.names.lookup x=some .local:=by first|exact .inl rfl|exact .inr rfl|assumption):
  SS X (.Assign [.Name x pos'] (.ListComp elt [⟨tg,iter,ifs,0⟩] scope cpos) pos) (tAsg (zK2 own ix wi g tt te) (gName j)):=⟨qsetc hN hix hx hc S hi.h (fun _ _ _ _ _=>(hg _ _ _ _ _).h) (fun _ _ _ _ _=>(ht _ _ _ _ _).h) (fun _ _ _ _ _=>(he _ _ _ _ _).h) hsw h hf⟩
theorem qset' {j:Nat}{x:Str}{pos':Pos}(hN:X.N.Nodup) (hi:X.N[j]?=some x) (hx:Loc X.env.scope x) (he:SE X e te) (hf:X.fn x=true\/X.env.scope.names.lookup x=some .local:=by first|exact .inl rfl|exact .inr rfl|assumption) (h:nco e=true:=by rfl):
  SS X (.Assign [.Name x pos'] e pos) (tAsg te (gName j)):=⟨qset hN hi hx he.h hf h⟩
theorem qsetk' {j:Nat}{x:Str}{pos':Pos}(hN:X.N.Nodup) (hi:X.N[j]?=some x) (hx:Loc X.env.scope x) (he:SE X e te) (hsw:swapsWith e (some (.Name x pos')) pos.line X.env=pure false:=by rfl) (hf:X.fn x=true\/X.env.scope.names.lookup x=some .local:=by first|exact .inl rfl|exact .inr rfl|assumption):
  SS X (.Assign [.Name x pos'] e pos) (tAsg te (gName j)):=⟨zTa hN hi hx he.h hsw hf⟩
theorem qasgt' {ts:List Expr}{k:Nat}{tp:Pos}{g:TG}(he:SE X e te) (hg:SG X (.Tuple ts k tp) g) (h1:ntu e=true:=by rfl):SS X (.Assign [.Tuple ts k tp] e pos) (tAsg te g):=⟨qasgt he.h hg.h h1⟩
theorem qasgn' {ts:List Expr}{k:Nat}{tp:Pos}{g:TG}(he:SE X e te) (hg:SG X (.Tuple ts k tp) g) (hw:swappedStores [.Tuple ts k tp] e X.env=pure none:=by rfl):SS X (.Assign [.Tuple ts k tp] e pos) (tAsg te g):=⟨zOf he.h hg.h zHy hw rfl⟩
theorem qasgs' {g:TG}{sp2:Pos}(he:SE X e te) (hg:SG X (.Subscript o i sp2) g) (h2:nco e=true:=by rfl):SS X (.Assign [.Subscript o i sp2] e pos) (tAsg te g):=⟨zOf he.h hg.h (zUg h2) (by cases e <;> rfl) rfl⟩
theorem qpar' {x y:Str}{px py pt pt2:Pos}{kt k2 i j:Nat}{ta:TA}(hc:X.calm=true) (hN:X.N.Nodup) (hi:X.N[i]?=some x) (hj:X.N[j]?=some y) (hij:i≠j)
  (hx:X.env.scope.names.lookup x=some .local) (hy:X.env.scope.names.lookup y=some .local) (ha:SA X [a,b] ta)
  (hw:swappedStores [.Tuple [.Name x px,.Name y py] kt pt] (.Tuple [a,b] k2 pt2) X.env=pure (some [x,y])):
  SS X (.Assign [.Tuple [.Name x px,.Name y py] kt pt] (.Tuple [a,b] k2 pt2) pos) (tPar i j ta):=⟨qpar hc hN hi hj hij hx hy ha.h hw⟩
theorem zV2 (he:SE X e te):SS X (.Return (some e) pos) (tRet te):=⟨zY2 he.h⟩
theorem zY4 {ba bb:List Stmt}{t u:TS}(hc:ST X c tA) (ha:SSs X ba t) (hb:SSs X bb u):SS X (.If c ba bb pos) (tIfS tA t u):=⟨yAg hc.h ha.h hb.h⟩
theorem zOe {body:List Stmt}{t:TS}(hp:PassesOwn (model X.prog X.w) X.A X.env X.xe) (hc:ST X c tA) (hb:SSs X body t):SS X (.While c body [] pos) (zT6 tA t):=⟨zR8 hp hc.h hb.h⟩
theorem qfor' {tg iter:Expr}{body:List Stmt}{wi:TI}{g:TG}{t:TS}(hp:PassesOwn (model X.prog X.w) X.A X.env X.xe) (hc:X.calm=true) (hi:SI X tg iter wi) (hg:SG X tg g) (hb:SSs X body t) (h:nse iter=true:=by rfl):
  SS X (.For tg iter body [] pos) (tFor wi g t):=⟨qfor hp hc hi.h hg.h hb.h h⟩
theorem qexpr' (he:SE X e te) (h:nco e=true:=by rfl):SS X (.Expr e pos) (zUa te):=⟨qexpr he.h h⟩
theorem pss_nil':SSs X [] zXj:=⟨zV0⟩
theorem zR6 {st:Stmt}{t:TS}(h:SS X st t):SSs X [st] t:=⟨zUz h.h⟩
theorem zOd {st:Stmt}{r:List Stmt}{t u:TS}(h1:SS X st t) (h2:SSs X r u):SSs X (st::r) (tSeq t u):=⟨zR7 h1.h h2.h⟩
end
end L2
namespace L2
open PySem PySem.Spec PyProof.Rows
noncomputable def BN (n:Nat) (x:Int):Prop:=x.natAbs<2 ^ n
theorem BN.bits {x:Int}(h:BN 5000 x):Builtin.Int.intBits x<=2 ^ 20:=by
 unfold Builtin.Int.intBits
 split
 ·exact vf _
 ·rename_i hx
  have h0:x.natAbs≠0:=by
   intro z
   apply hx
   have:x=0:=by nofun
   rw[this];rfl
  have:=(Nat.log2_lt h0).mpr h
  lia
theorem BN.log {x:Int}(h:BN 5000 x):x.natAbs.log2<9000:=by
 by_cases h0:x.natAbs=0
 ·rw[h0];decide +kernel
 ·have:=(Nat.log2_lt h0).mpr h
  lia
section
variable {X:Cx}
theorem zVo:OpR X (binaryOp .Mult) (rI (fun i j=>BN 5000 i/\BN 5000 j) fun i j=>.int (i*j)):=opI fun _ _ _ _ _ _ _ hc q=>mul_int q (IntMulOk.of_bits hc.1.bits hc.2.bits)
theorem zRs:OpR X (binaryOp .FloorDiv) (rI (fun _ j=>j≠0/\BN 5000 j) fun i j=>.int (i.fdiv j)):=opI fun _ _ _ _ _ _ _ hc q=>floordiv_int hc.1 q (.inl (PyProof.noPylong_of_log2 hc.2.log))
end
noncomputable def dv (u l:Int):Int:=if l<0 then -(Int.gcd u l:Int)else(Int.gcd u l:Int)
end L2
namespace L2
open PySem PySem.Spec PyProof.Rows
structure ZipOwn (z TI TO i1 i2:Addr):Prop where
 TIz:TI≠z
 TOz:TO≠z
 i1z:i1≠z
 i2z:i2≠z
 TITO:TI≠TO
 TIi1:TI≠i1
 TIi2:TI≠i2
 TOi1:TO≠i1
 TOi2:TO≠i2
 i12:i1≠i2
theorem ZipOwn.apart {z TI TO i1 i2 a b:Addr}(D:ZipOwn z TI TO i1 i2) (ha:a ∉ [z,TI,TO,i1,i2]) (hb:b ∉ [z,TI,TO,i1,i2]):ZipApart z TI TO i1 i2 a b:=by
 simp only[xm,xP,xQ,not_or]at ha hb
 obtain⟨a1,a2,a3,a4,a5⟩:=ha
 obtain⟨b1,b2,b3,b4,b5⟩:=hb
 exact⟨D.TIz,D.TOz,D.i1z,D.i2z,D.TITO,D.TIi1,D.TIi2,D.TOi1,D.TOi2,D.i12,a1,a3,a4,a5,b1,b3,b4,b5⟩
end L2
namespace TB
open PySem
noncomputable abbrev Up (l:List Nat):Prop:=l.Pairwise (·<·)
theorem zHa {l:List Nat}(h:Up l) {i j:Nat}(hij:i<j) (hj:j<l.length):l[i]'(xZ hij hj)<l[j]:=yu.mp h i j _ hj hij
theorem zK0:∀(l:List Nat) (a b:Nat),Up l->(∀e,a<=e->e<b->e∈l)->b-a<=l.length
 | [],a,b,_,h=>by
  by_cases c:a<b
  ·exact absurd (h a (xh _) c) (by simp)
  ·simp;lia
 | x::xs,a,b,u,h=>by
  have ux:=vM.mp u
  by_cases c:a<b
  ·have ha:=h a (xh _) c
   rcases Nat.lt_trichotomy a x with q|q|q
   ·rcases xm.mp ha with z|z
    ·lia
    ·exact absurd (ux.1 a z) (by nofun)
   ·subst q
    have r:=zK0 xs (a+1) b ux.2 fun e h1 h2=>by
     rcases xm.mp (h e (by nofun) h2)with z|z
     ·lia
     ·exact z
    simp only[xY];lia
   ·have r:=zK0 xs a b ux.2 fun e h1 h2=>by
     rcases xm.mp (h e h1 h2)with z|z
     ·lia
     ·exact z
    simp only[xY];lia
  ·lia
theorem zXd {l:List Nat}{m:Nat}(u:Up l) (h:l.length<=m):∃e,e<=m/\e ∉ l:=by
 refine vN fun n=>?_
 have r:=zK0 l 0 (m+1) u fun e _ h2=>vN fun q=>n ⟨e,by nofun,q⟩
 lia
theorem zIm {xs:Array Nat}{j:Nat}(u:Up xs.toList):∀(f lo hi:Nat),hi-lo<=f->lo<=hi->hi<=xs.size->(∀i (q:i<xs.size),i<lo->xs[i]<j)->(∀i (q:i<xs.size),hi<=i->j<=xs[i])->
  (SetTable.below.go xs j f lo hi<=xs.size/\(∀i (q:i<xs.size),i<SetTable.below.go xs j f lo hi->xs[i]<j)/\(∀i (q:i<xs.size),SetTable.below.go xs j f lo hi<=i->j<=xs[i]))
 | 0,lo,hi,h1,h2,h3,h4,h5=>by
  have e:lo=hi:=by nofun
  subst e
  exact⟨h3,h4,h5⟩
 | f+1,lo,hi,h1,h2,h3,h4,h5=>by
  unfold SetTable.below.go
  by_cases c:lo<hi
  ·rw[xc c]
   have hm:(lo+hi) / 2<hi:=by nofun
   have hl:lo<=(lo+hi) / 2:=by nofun
   have hz:(lo+hi) / 2<xs.size:=by nofun
   have eg:xs.getD ((lo+hi) / 2) j=xs[(lo+hi) / 2]:=by simp[Array.getD,hz]
   dsimp only
   rw[eg]
   have rise:∀i k (q:i<xs.size) (r:k<xs.size),i<k->xs[i]<xs[k]:=fun i k q r hik=>by
    have:=zHa u hik (by simpa using r)
    simpa using this
   by_cases d:xs[(lo+hi) / 2]<j
   ·rw[xc d]
    refine zIm u f _ hi (by nofun) (by nofun) h3 (fun i q hi'=>?_) h5
    rcases xJ i ((lo+hi) / 2)with z|z
    ·exact xZ (rise _ _ q hz z) d
    ·have:i=(lo+hi) / 2:=by nofun
     subst this;exact d
   ·rw[xf d]
    refine zIm u f lo _ (by nofun) hl (by nofun) h4 (fun i q hi'=>?_)
    rcases xJ ((lo+hi) / 2) i with z|z
    ·have:=rise _ _ hz q z;lia
    ·have:i=(lo+hi) / 2:=by nofun
     subst this;lia
  ·rw[xf c]
   have e:lo=hi:=by nofun
   subst e
   exact⟨h3,h4,h5⟩
theorem zIl {xs:Array Nat}(j:Nat) (u:Up xs.toList):SetTable.below xs j<=xs.size/\(∀i (q:i<xs.size),i<SetTable.below xs j->xs[i]<j)/\(∀i (q:i<xs.size),SetTable.below xs j<=i->j<=xs[i]):=
 zIm u xs.size 0 xs.size (by nofun) (by nofun) (xh _) (fun i q h=>by nofun) (fun i q h=>by nofun)
theorem zSz {xs:Array Nat}{j k:Nat}(u:Up xs.toList) (hk:k<=xs.size) (h1:∀i (q:i<xs.size),i<k->xs[i]<j) (h2:∀i (q:i<xs.size),k<=i->j<=xs[i]):SetTable.below xs j=k:=by
 obtain⟨a,b,c⟩:=zIl j u
 rcases Nat.lt_trichotomy (SetTable.below xs j) k with z|z|z
 ·have p:=h1 _ (by nofun) z;have q:=c _ (by nofun) (xh _);lia
 ·exact z
 ·have p:=h2 k (by nofun) (xh _);have q:=b k (by nofun) z;lia
noncomputable def slotAt (xs:Array Nat) (k:Nat):Nat:=if k=0 then 0 else xs.getD (k-1) 0+1
theorem zJp {xs:Array Nat}{k:Nat}(u:Up xs.toList) (hk:k<=xs.size):SetTable.below xs (slotAt xs k)=k:=by
 have rise:∀i k (q:i<xs.size) (r:k<xs.size),i<k->xs[i]<xs[k]:=fun i k q r hik=>by
  have:=zHa u hik (by simpa using r)
  simpa using this
 refine zSz u hk (fun i q h=>?_) (fun i q h=>?_)
 ·unfold slotAt
  rw[xf (by nofun)]
  have hz:k-1<xs.size:=by nofun
  have:xs.getD (k-1) 0=xs[k-1]:=by simp[Array.getD,hz]
  rw[this]
  rcases xJ i (k-1)with z|z
  ·have:=rise _ _ q hz z;lia
  ·have:i=k-1:=by nofun
   subst this;lia
 ·unfold slotAt
  by_cases c:k=0
  ·rw[xc c];lia
  ·rw[xf c]
   have hz:k-1<xs.size:=by nofun
   have:xs.getD (k-1) 0=xs[k-1]:=by simp[Array.getD,hz]
   rw[this]
   have:=rise _ _ hz q (by nofun);lia
theorem zG1 {α:Type}(xs:Array α) (p:Nat) (x:α):(SetTable.insertAt xs p x).toList=xs.toList.take p++x::xs.toList.drop p:=by
 unfold SetTable.insertAt
 simp[Array.toList_extract]
 exact List.take_of_length_le (by simp)
theorem zIc {α:Type}(xs:Array α) (p:Nat) (x:α):(SetTable.insertAt xs p x).toList.Perm (x::xs.toList):=by
 rw[zG1]
 exact List.perm_middle.trans (by rw[List.take_append_drop])
theorem zLx {α:Type}(xs:Array α) (p:Nat) (x:α):(SetTable.insertAt xs p x).size=xs.size+1:=by
 have:=(zIc xs p x).length_eq
 simpa using this
theorem zZk {xs:Array Nat}{j:Nat}(u:Up xs.toList) (h:xs[SetTable.below xs j]?≠some j):Up (SetTable.insertAt xs (SetTable.below xs j) j).toList:=by
 obtain⟨a,b,c⟩:=zIl j u
 rw[zG1]
 have h1:∀v∈xs.toList.take (SetTable.below xs j),v<j:=fun v hv=>by
  obtain⟨i,hi,rfl⟩:=vw.mp hv
  rw[vH]at hi
  rw[List.getElem_take]
  have:=b i (by simp at hi;lia) (by nofun)
  simpa using this
 have h2:∀v∈xs.toList.drop (SetTable.below xs j),j<v:=fun v hv=>by
  obtain⟨i,hi,rfl⟩:=vw.mp hv
  rw[vY]at hi
  rw[List.getElem_drop]
  have hz:SetTable.below xs j+i<xs.size:=by simp at hi;lia
  have h3:=c _ hz (by nofun)
  have h4:xs[SetTable.below xs j]'(by nofun)≠j:=fun e=>h (by rw[va (by nofun),e])
  have h5:=c (SetTable.below xs j) (by nofun) (xh _)
  have h6:xs[SetTable.below xs j]'(by nofun)<=xs[SetTable.below xs j+i]:=by
   rcases Nat.eq_zero_or_pos i with z|z
   ·subst z;exact xh _
   ·have:=zHa u (i:=SetTable.below xs j) (j:=SetTable.below xs j+i) (by nofun) (by simpa using hz)
    exact vb (by simpa using this)
  simp only[Array.getElem_toList]
  lia
 refine List.pairwise_append.mpr ⟨u.sublist (List.take_sublist _ _),vM.mpr ⟨fun v hv=>h2 v hv,u.sublist (List.drop_sublist _ _)⟩,fun p hp q hq=>?_⟩
 rcases xm.mp hq with rfl|hq
 ·exact h1 p hp
 ·exact xZ (h1 p hp) (h2 q hq)
noncomputable def orb (m:Nat):Nat->Nat × Nat->Nat × Nat
 | 0,x=>x
 | L+1,x=>orb m L (SetTable.leap m x.1 x.2)
noncomputable def gs (m:Nat):Nat->Nat->Nat
 | 0,i=>i
 | k+1,i=>gs m k ((i*5+1) % (m+1))
theorem zLy (m:Nat):∀(a b i:Nat),gs m (a+b) i=gs m b (gs m a i)
 | 0,b,i=>by rw[vO];rfl
 | a+1,b,i=>by rw[show a+1+b=(a+b)+1 by nofun];exact zLy m a b _
noncomputable def Msk (m:Nat):Prop:=m=7\/m=31\/m=127\/m=511
theorem zZn {m:Nat}(h:Msk m):gs m (m+1) 0=0/\∀e,e<m+1->∃k,k<m+1/\gs m k 0=e:=by
 have t:∀(M:Nat) (f:Nat->Nat),(gs M (M+1) 0 == 0 && (List.range (M+1)).all fun e=>decide (f e<M+1) && gs M (f e) 0 == e)=true->gs M (M+1) 0=0/\∀e,e<M+1->∃k,k<M+1/\gs M k 0=e:=fun M f hh=>by
  rw[xM,vv]at hh
  refine⟨by simpa using hh.1,fun e he=>⟨f e,?_⟩⟩
  have:=hh.2 e (xC.mpr he)
  simpa using this
 rcases h with rfl|rfl|rfl|rfl
 ·exact t 7 (fun e=>((List.range 8).find? fun k=>gs 7 k 0 == e).getD 0) (by decide +kernel)
 ·exact t 31 (fun e=>((List.range 32).find? fun k=>gs 31 k 0 == e).getD 0) (by decide +kernel)
 ·exact t 127 (fun e=>((List.range 128).find? fun k=>gs 127 k 0 == e).getD 0) (by decide +kernel)
 ·exact t 511 (fun e=>((List.range 512).find? fun k=>gs 511 k 0 == e).getD 0) (by decide +kernel)
theorem zZm {m i e:Nat}(h:Msk m) (hi:i<m+1) (he:e<m+1):∃k,k<=m/\gs m k i=e:=by
 obtain⟨z,al⟩:=zZn h
 obtain⟨a,ha,rfl⟩:=al i hi
 obtain⟨b,hb,rfl⟩:=al e he
 rcases xJ b a with c|c
 ·refine⟨m+1-a+b,by nofun,?_⟩
  rw[<- zLy,show a+(m+1-a+b)=(m+1)+b by nofun,zLy,z]
 ·exact⟨b-a,by nofun,by rw[<- zLy,show a+(b-a)=b by nofun]⟩
theorem zOx (m:Nat):∀(a b:Nat) (x:Nat × Nat),orb m (a+b) x=orb m b (orb m a x)
 | 0,b,x=>by rw[vO];rfl
 | a+1,b,x=>by rw[show a+1+b=(a+b)+1 by nofun];exact zOx m a b _
theorem zOw (m:Nat):∀(L:Nat) (x:Nat × Nat),(orb m L x).2=x.2 / 32 ^ L
 | 0,x=>by simp[orb]
 | L+1,x=>by
  show(orb m L _).2=_
  rw[zOw m L]
  show x.2 / 32 / 32 ^ L=_
  rw[Nat.div_div_eq_div_mul,Nat.pow_succ,Nat.mul_comm]
theorem zTd {m:Nat}:∀(L:Nat) (x:Nat × Nat),x.1<m+1->(orb m L x).1<m+1
 | 0,x,h=>h
 | L+1,x,h=>zTd L _ (vP _ (by nofun))
theorem zTe (m:Nat):∀(k:Nat) (x:Nat × Nat),x.2=0->(orb m k x).1=gs m k x.1
 | 0,x,h=>rfl
 | k+1,x,h=>by
  show(orb m k (SetTable.leap m x.1 x.2)).1=gs m k _
  rw[zTe m k _ (by show x.2 / 32=0;rw[h])]
  show gs m k ((x.1*5+1+x.2 / 32) % (m+1))=_
  rw[h]
theorem zK6 {m i p e:Nat}(h:Msk m) (hi:i<m+1) (hp:p<2 ^ 64) (he:e<m+1):∃L,L<=13+m/\(orb m L (i,p)).1=e:=by
 obtain⟨k,hk,ek⟩:=zZm h (zTd 13 (i,p) hi) he
 have h0:(orb m 13 (i,p)).2=0:=by rw[zOw];exact Nat.div_eq_of_lt (xZ hp (by decide))
 exact⟨13+k,by nofun,by rw[zOx,zTe m k _ h0,ek]⟩
end TB
namespace TB
open PySem
noncomputable def adv (t:SetTable):Nat->SetTable.Probe->SetTable.Probe
 | 0,p=>p
 | m+1,p=>adv t m (t.advance p)
theorem zD8 (t:SetTable):∀(a b:Nat) (p:SetTable.Probe),adv t (a+b) p=adv t b (adv t a p)
 | 0,b,p=>by rw[vO];rfl
 | a+1,b,p=>by rw[show a+1+b=(a+b)+1 by nofun];exact zD8 t a b _
theorem zJq (t:SetTable):∀(m:Nat) (p:SetTable.Probe),(adv t m p).dummy=p.dummy
 | 0,p=>rfl
 | m+1,p=>by
  show(adv t m (t.advance p)).dummy=_
  rw[zJq t m]
  unfold SetTable.advance
  split <;> rfl
noncomputable def beg (t:SetTable) (x:Nat × Nat) (d:Option Nat):SetTable.Probe:={ j:=x.1,more:=SetTable.runEnd t.mask x.1-x.1,i:=x.1,perturb:=x.2,dummy:=d }
theorem zIo (t:SetTable):∀(c:Nat) (p:SetTable.Probe),p.more=c->adv t (c+1) p=beg t (SetTable.leap t.mask p.i p.perturb) p.dummy
 | 0,p,h=>by
  show t.advance p=_
  unfold SetTable.advance
  rw[xf (by nofun)]
  rfl
 | c+1,p,h=>by
  show adv t (c+1) (t.advance p)=_
  have e:t.advance p={ p with j:=p.j+1,more:=p.more-1 }:=by
   unfold SetTable.advance
   rw[xc (by nofun)]
  rw[e]
  exact zIo t c _ (by show p.more-1=c;lia)
theorem zX5 (t:SetTable) (x:Nat × Nat) (d:Option Nat):∃c,1<=c/\c<=10/\adv t c (beg t x d)=beg t (SetTable.leap t.mask x.1 x.2) d:=by
 refine⟨SetTable.runEnd t.mask x.1-x.1+1,by nofun,?_,zIo t _ (beg t x d) rfl⟩
 unfold SetTable.runEnd
 split <;> lia
theorem zQn (t:SetTable) (d:Option Nat):∀(L:Nat) (x:Nat × Nat),∃c,c<=10*L/\adv t c (beg t x d)=beg t (orb t.mask L x) d
 | 0,x=>⟨0,by nofun,rfl⟩
 | L+1,x=>by
  obtain⟨c,_,h1,e1⟩:=zX5 t x d
  obtain⟨c',h2,e2⟩:=zQn t d L (SetTable.leap t.mask x.1 x.2)
  refine⟨c+c',by nofun,?_⟩
  rw[zD8,e1,e2]
  rfl
theorem zKu (h:Int):SetTable.bits h<2 ^ 64:=by
 unfold SetTable.bits
 have:=vx h (show(0:Int)<2 ^ 64 by decide)
 have:=vy h (show(2 ^ 64:Int)≠0 by decide)
 lia
theorem zNx {t:SetTable}{h:Int}{e:Nat}(hm:Msk t.mask) (he:e<=t.mask):∃c,c<10*SetTable.turns t.mask/\(adv t c (t.probeStart h)).j=e:=by
 obtain⟨L,hL,eL⟩:=zK6 (p:=SetTable.bits h) (i:=SetTable.bits h % (t.mask+1)) hm (vP _ (by nofun)) (zKu h) (show e<t.mask+1 by nofun)
 obtain⟨c,hc,ec⟩:=zQn t none L (SetTable.bits h % (t.mask+1),SetTable.bits h)
 refine⟨c,by unfold SetTable.turns;lia,?_⟩
 have e0:t.probeStart h=beg t (SetTable.bits h % (t.mask+1),SetTable.bits h) none:=rfl
 rw[e0,ec]
 exact eL
noncomputable def Far (t:SetTable) (p:SetTable.Probe) (m:Nat):Prop:=t.slot (adv t m p).j=.empty/\p.dummy=none
theorem zDe {t:SetTable}(hd:t.dummies=#[]) (j:Nat):t.slot j=(if t.place[SetTable.below t.place j]? == some j then .live (SetTable.below t.place j)else .empty):=by
 have e:SetTable.has t.dummies j=false:=by rw[hd];rfl
 unfold SetTable.slot
 simp only[e]
 simp
theorem zF4 {t:SetTable}(hd:t.dummies=#[]) {j:Nat}:t.slot j=.empty <-> t.place[SetTable.below t.place j]?≠some j:=by
 rw[zDe hd]
 by_cases c:t.place[SetTable.below t.place j]?=some j
 ·simp[c]
 ·simp[c]
structure Tab (t:SetTable) (n:Nat) (led:Bool):Prop where
 hm:Msk t.mask
 size:t.place.size=n
 nod:t.dummies=#[]
 up:Up t.place.toList
 room:n*5<t.mask*3
 plain:t.plain=true
 led:t.led=led
theorem Tab.fill {t:SetTable}{n:Nat}{b:Bool}(T:Tab t n b):t.fill=n:=by unfold SetTable.fill;rw[T.size,T.nod];rfl
theorem Tab.fits {t:SetTable}{n:Nat}{b:Bool}(T:Tab t n b):(t.place.size != n || decide (t.fill > t.mask))=false:=by
 have:=T.room
 rw[T.fill,T.size]
 simp;lia
theorem Tab.way {t:SetTable}{n:Nat}{b:Bool}(T:Tab t n b):t.gaveWay=false:=by
 unfold SetTable.gaveWay
 rcases T.hm with e|e|e|e <;> rw[e] <;> rfl
theorem Tab.start {t:SetTable}{n:Nat}{b:Bool}(T:Tab t n b) (h:Int):∃m,m<10*SetTable.turns t.mask/\Far t (t.probeStart h) m:=by
 have hn:t.place.toList.length<=t.mask:=by have:=T.room;have:=T.size;simp;lia
 obtain⟨e,he,hne⟩:=zXd T.up hn
 obtain⟨c,hc,ec⟩:=zNx (t:=t) (h:=h) T.hm he
 refine⟨c,hc,?_,rfl⟩
 rw[ec,zF4 T.nod]
 intro q
 exact hne (by
  obtain⟨hz,e'⟩:=v7.mp q
  rw[<- e']
  simp)
theorem Tab.turns {t:SetTable}{n:Nat}{b:Bool}(T:Tab t n b):10*SetTable.turns t.mask<100000:=by
 rcases T.hm with e|e|e|e <;> rw[e] <;> decide
theorem zPw (b:Bool):Tab (SetTable.fresh 0 0 b) 0 b:=⟨.inl rfl,rfl,rfl,.nil,(show 0*5<7*3 by decide),rfl,rfl⟩
structure TabP (t:SetTable) (n:Nat) (led:Bool):Prop where
 hm:Msk t.mask
 size:t.place.size=n
 nod:t.dummies=#[]
 up:Up t.place.toList
 most:(n-1)*5<t.mask*3
 plain:t.plain=true
 led:t.led=led
theorem Tab.put {t:SetTable}{n j:Nat}{b:Bool}(T:Tab t n b) (hj:t.slot j=.empty):TabP (t.put j).1 (n+1) b:=by
 have e:SetTable.has t.dummies j=false:=by rw[T.nod];rfl
 have e2:(t.put j).1={ t with place:=SetTable.insertAt t.place (SetTable.below t.place j) j }:=by
  unfold SetTable.put
  simp[e]
 rw[e2]
 exact⟨T.hm,by show(SetTable.insertAt _ _ _).size=_;rw[zLx,T.size],T.nod,zZk T.up ((zF4 T.nod).mp hj),by show(n+1-1)*5<t.mask*3;have:=T.room;simpa using this,T.plain,T.led⟩
theorem TabP.fill {t:SetTable}{n:Nat}{b:Bool}(T:TabP t n b):t.fill=n:=by unfold SetTable.fill;rw[T.size,T.nod];rfl
theorem TabP.tab {t:SetTable}{n:Nat}{b:Bool}(T:TabP t n b) (h:t.tooFull=false):Tab t n b:=by
 refine⟨T.hm,T.size,T.nod,T.up,?_,T.plain,T.led⟩
 unfold SetTable.tooFull at h
 rw[T.fill]at h
 simpa using h
theorem TabP.fits {t:SetTable}{n:Nat}{b:Bool}(T:TabP t n b):(t.place.size != n || decide (t.fill > t.mask))=false:=by
 have h:=T.most
 have hm:7<=t.mask:=by rcases T.hm with e|e|e|e <;> rw[e] <;> decide
 rw[T.fill,T.size]
 simp;lia
theorem zId {m:Nat}{owner:Array (Option Nat)}{e:Nat}(ho:owner.getD e (some 0)=none):∀(L f:Nat) (x:Nat × Nat),L<f->(orb m L x).1=e->∃j,SetTable.layClean.free m owner f x.1 x.2=some j/\owner.getD j (some 0)=none
 | L,0,x,h,_=>by nofun
 | L,f+1,x,h,he=>by
  unfold SetTable.layClean.free
  cases hf:(List.range (SetTable.runEnd m x.1+1-x.1)).find? fun k=>(owner.getD (x.1+k) (some 0)).isNone with
  | some k=>
   have:=List.find?_some hf
   exact⟨x.1+k,rfl,by simpa using this⟩
  | none=>
   cases L with
   | zero=>
    have hx:x.1=e:=he
    have:=List.find?_eq_none.mp hf 0 (xC.mpr (by unfold SetTable.runEnd;split <;> lia))
    rw[Nat.add_zero,hx,ho]at this
    exact absurd rfl this
   | succ L=>exact zId ho L f (SetTable.leap m x.1 x.2) (by nofun) he
theorem zKb:∀(l:List (Option Nat)),(l.filterMap id).length<l.length->∃e,e<l.length/\l[e]?=some none
 | [],h=>by simp at h
 | none::l,_=>⟨0,by simp,rfl⟩
 | some v::l,h=>by
  obtain⟨e,h1,h2⟩:=zKb l (by simpa using h)
  exact⟨e+1,by simp;lia,by simpa using h2⟩
theorem zI1:∀(l:List (Option Nat)) (j k:Nat),l[j]?=some none->((l.set j (some k)).filterMap id).Perm (k::l.filterMap id)
 | [],j,k,h=>by simp at h
 | x::l,0,k,h=>by
  have:x=none:=by simpa using h
  subst this
  simp
 | x::l,j+1,k,h=>by
  have ih:=zI1 l j k (by simpa using h)
  cases x with
  | none=>simpa using ih
  | some v=>
   simp only[vQ,um,id]
   exact(List.Perm.cons v ih).trans (List.Perm.swap _ _ _)
noncomputable def Laid (m:Nat) (acc:Option (Array (Option Nat) × Nat)) (k:Nat):Prop:=∃owner,acc=some (owner,k)/\owner.size=m+1/\(owner.toList.filterMap id).Perm (List.range k)
theorem zPi {m k:Nat}(hm:Msk m) (hk:k<=m) {owner:Array (Option Nat)}(hs:owner.size=m+1) (hp:(owner.toList.filterMap id).Perm (List.range k)) (h:Int):
  ∃j,SetTable.layClean.free m owner (SetTable.turns m) (SetTable.bits h % (m+1)) (SetTable.bits h)=some j/\Laid m (some (owner.setIfInBounds j (some k),k+1)) (k+1):=by
 obtain⟨e,h1,h2⟩:=zKb owner.toList (by rw[hp.length_eq,List.length_range];simp[hs];lia)
 have h1':e<owner.size:=by simpa using h1
 have ho:owner.getD e (some 0)=none:=by
  have:owner[e]?=some none:=by simpa using h2
  simp[vG,this]
 obtain⟨L,hL,eL⟩:=zK6 (p:=SetTable.bits h) (i:=SetTable.bits h % (m+1)) hm (vP _ (by nofun)) (zKu h) (show e<m+1 by nofun)
 obtain⟨j,ej,hj⟩:=zId ho L (SetTable.turns m) (SetTable.bits h % (m+1),SetTable.bits h) (by unfold SetTable.turns;lia) eL
 refine⟨j,ej,_,rfl,by simpa using hs,?_⟩
 have hj2:owner.toList[j]?=some none:=by
  rw[vG]at hj
  cases hq:owner[j]? with
  | none=>rw[hq]at hj;cases hj
  | some v=>rw[hq]at hj;have:v=none:=hj;subst this;simpa using hq
 rw[Array.toList_setIfInBounds]
 refine(zI1 _ j k hj2).trans ((List.Perm.cons k hp).trans ?_)
 rw[List.range_succ]
 exact(List.perm_append_singleton k (List.range k)).symm
theorem zLo {m:Nat}(hm:Msk m):∀(hs:List Int) (k:Nat) (acc:Option (Array (Option Nat) × Nat)),k+hs.length<=m+1->Laid m acc k->
  Laid m (hs.foldl (fun acc h=>do
   let (owner,k) <- acc
   let j <- SetTable.layClean.free m owner (SetTable.turns m) (SetTable.bits h % (m+1)) (SetTable.bits h)
   pure (owner.setIfInBounds j (some k),k+1)) acc) (k+hs.length)
 | [],k,acc,_,L=>L
 | h::hs,k,acc,hl,⟨owner,ea,h1,h2⟩=>by
  subst ea
  obtain⟨j,ej,L⟩:=zPi hm (by simp at hl;lia) h1 h2 h
  have:=zLo hm hs (k+1) _ (by simp at hl;lia) L
  rw[uB]
  have e2:(do
   let (owner,k) <- some (owner,k)
   let j <- SetTable.layClean.free m owner (SetTable.turns m) (SetTable.bits h % (m+1)) (SetTable.bits h)
   pure (owner.setIfInBounds j (some k),k+1))=some (owner.setIfInBounds j (some k),k+1):=by
   show(SetTable.layClean.free m owner (SetTable.turns m) (SetTable.bits h % (m+1)) (SetTable.bits h) >>= fun j=>pure (owner.setIfInBounds j (some k),k+1))=_
   rw[ej];rfl
  rw[e2,xY,show k+(hs.length+1)=k+1+hs.length by nofun]
  exact this
theorem zLn:∀(l:List (Option Nat)) (g:Nat->Nat),((List.range l.length).filterMap fun j=>((l[j]?).getD none).map fun v=>(g j,v)).map (·.2)=l.filterMap id
 | [],g=>rfl
 | x::l,g=>by
  have ih:=zLn l (fun j=>g (j+1))
  rw[xY,List.range_succ_eq_map,um]
  have e:((List.map Nat.succ (List.range l.length)).filterMap fun j=>(((x::l)[j]?).getD none).map fun v=>(g j,v))=(List.range l.length).filterMap fun j=>((l[j]?).getD none).map fun v=>(g (j+1),v):=by
   rw[List.filterMap_map];rfl
  cases x with
  | none=>simp only[xB,Option.getD_some,Option.map_none];rw[e,ih];rfl
  | some v=>simp only[xB,Option.getD_some,vz,xt];rw[e,ih];rfl
theorem zKg (f:Nat->Option Nat):∀(l:List Nat),Up l->Up ((l.filterMap fun j=>(f j).map fun v=>(j,v)).map (·.1))
 | [],_=>.nil
 | x::l,u=>by
  have ux:=vM.mp u
  rw[um]
  cases hx:f x with
  | none=>exact zKg f l ux.2
  | some v=>
   simp only[vz,xt]
   refine vM.mpr ⟨fun y hy=>?_,zKg f l ux.2⟩
   obtain⟨q,hq,rfl⟩:=xk.mp hy
   obtain⟨z,hz,ez⟩:=u7.mp hq
   cases hf:f z with
   | none=>rw[hf]at ez;cases ez
   | some w=>rw[hf]at ez;cases ez;exact ux.1 _ hz
theorem zW2 {m:Nat}(hm:Msk m) {hs:Array Int}(hl:hs.size<=m) (hr:hs.size*5<m*3) (fing moves:Nat) (led:Bool):∃t order,SetTable.laid m fing moves led true hs=some (t,order)/\Tab t hs.size led/\order.toList.Perm (List.range hs.size):=by
 obtain⟨owner,e,h1,h2⟩:=zLo hm hs.toList 0 (some (Array.replicate (m+1) none,0)) (by simp;lia) ⟨_,rfl,by simp,by simp⟩
 have ec:SetTable.layClean m hs=some owner:=by
  unfold SetTable.layClean
  rw[<- Array.foldl_toList,e]
  rfl
 have es:=zLn owner.toList id
 have eg:∀j,(owner.getD j none).map (j,·)=((owner.toList[j]?).getD none).map fun v=>(id j,v):=fun j=>by
  rw[vG];simp
 refine⟨_,_,by unfold SetTable.laid;rw[ec];rfl,⟨hm,?_,rfl,?_,hr,rfl,rfl⟩,?_⟩
 ·show(List.map _ _).toArray.size=_
  rw[xv,xn,<- xn (f:=(·.2))]
  rw[<- h1] 
  rw[show owner.size=owner.toList.length by simp]
  simp only[eg]
  rw[es,h2.length_eq]
  simp
 ·show Up (List.map _ _).toArray.toList
  exact zKg _ _ (List.pairwise_lt_range)
 ·show(List.map _ _).toArray.toList.Perm _
  rw[<- h1,show owner.size=owner.toList.length by simp]
  simp only[eg]
  rw[List.toList_toArray,es]
  simpa using h2
end TB
namespace SR
open PySem PySem.W PyProof.Rows
noncomputable def TW {α:Type}(key:Nat->Nat) (n:Nat):KasT α->(α->Prop)->Prop
 | .ret a,Q=>Q a
 | .ask i j k,Q=>i<n/\j<n/\TW key n (k (decide (key i<key j))) Q
theorem TW.bind {α β:Type}{key:Nat->Nat}{n:Nat}{f:α->KasT β}{Q:β->Prop}:∀{t:KasT α},TW key n t (fun a=>TW key n (f a) Q)->TW key n (t.bind f) Q
 | .ret _,h=>h
 | .ask i j k,⟨h1,h2,h3⟩=>⟨h1,h2,TW.bind h3⟩
theorem TW.wp {α:Type}{key:Nat->Nat}{n:Nat}{cmp:Nat->Nat->(Bool->Shared->Prop)->Shared->Prop}{G:α->Shared->Prop}{s:Shared}
  (hc:∀i j (C:Bool->Shared->Prop),i<n->j<n->C (decide (key i<key j)) s->cmp i j C s):∀(t:KasT α),TW key n t (fun a=>G a s)->t.kasWp cmp G s
 | .ret _,h=>h
 | .ask i j k,⟨h1,h2,h3⟩=>hc i j _ h1 h2 (TW.wp hc _ h3)
noncomputable def Pm (n:Nat) (p:Array Nat):Prop:=p.Perm (List.range n).toArray
theorem Pm.size {n:Nat}{p:Array Nat}(h:Pm n p):p.size=n:=by have:=h.size_eq;simpa using this
theorem Pm.lt {n:Nat}{p:Array Nat}(h:Pm n p) {i:Nat}(hi:i<n):p.getD i 0<n:=by
 have hz:i<p.size:=by rw[h.size];exact hi
 have e:p.getD i 0=p[i]:=by simp[Array.getD,hz]
 rw[e]
 have:p[i]∈p:=Array.getElem_mem hz
 have:=h.mem_iff.mp this
 simpa using this
section
variable {key:Nat->Nat}{n:Nat}
noncomputable def Ky (key:Nat->Nat) (p:Array Nat) (i:Nat):Nat:=key (p.getD i 0)
noncomputable def Inc (key:Nat->Nat) (p:Array Nat) (m:Nat):Prop:=∀i j,i<=j->j<m->Ky key p i<=Ky key p j
noncomputable def Dec (key:Nat->Nat) (p:Array Nat) (m:Nat):Prop:=∀i j,i<=j->j<m->Ky key p j<=Ky key p i
theorem zJy {p r:Array Nat}{i j:Nat}(h:p[i]?=r[j]?):Ky key p i=Ky key r j:=by
 unfold Ky
 rw[vG,vG,h]
theorem zJx {p:Array Nat}{i j:Nat}(hj:j<=p.size) (k:Nat):Ky key (kas_rev p i j) k=if i<=k/\k<j then Ky key p (i+j-1-k)else Ky key p k:=by
 have e:=getElem?_mirror_all (i:=i) hj k
 by_cases c:i<=k/\k<j
 ·rw[xc c]at e ⊢;exact zJy e
 ·rw[xf c]at e ⊢;exact zJy e
theorem zU1 {p:Array Nat}{k d:Nat}(hk:k<p.size) (hd:d<=k) (j:Nat):Ky key (bubble p k d) j=if j=k-d then Ky key p k else if k-d<j/\j<=k then Ky key p (j-1)else Ky key p j:=by
 have e:=getElem?_bubble hk d hd j
 by_cases c:j=k-d
 ·rw[xc c]at e ⊢;exact zJy e
 ·rw[xf c]at e ⊢
  by_cases c':k-d<j/\j<=k
  ·rw[xc c']at e ⊢;exact zJy e
  ·rw[xf c']at e ⊢;exact zJy e
theorem Pm.rev {p:Array Nat}(h:Pm n p) (i j:Nat):Pm n (kas_rev p i j):=(mirror_perm p i j _).trans h
theorem ask_ {α:Type}{i j:Nat}{k:Bool->KasT α}{Q:α->Prop}(hi:i<n) (hj:j<n) (h1:key i<key j->TW key n (k true) Q) (h2:¬ key i<key j->TW key n (k false) Q):TW key n (.ask i j k) Q:=by
 refine⟨hi,hj,?_⟩
 by_cases c:key i<key j
 ·rw[xw c];exact h1 c
 ·rw[xA c];exact h2 c
theorem asc_ {p:Array Nat}(hp:Pm n p) {nrem:Nat}(hn:nrem<=n) {Q:Nat->Prop}:∀(f m:Nat),1<=m->m+f=nrem->Inc key p m->
  (∀m',m<=m'->m'<=nrem->Inc key p m'->(m'<nrem->Ky key p m'<Ky key p (m' - 1))->Q m')->TW key n (kas_asc p f m) Q
 | 0,m,h1,h2,h3,h=>h m (xh _) (by nofun) h3 (by nofun)
 | f+1,m,h1,h2,h3,h=>by
  refine ask_ (hp.lt (by nofun)) (hp.lt (by nofun)) (fun c=>?_) (fun c=>?_)
  ·exact h m (xh _) (by nofun) h3 fun _=>c
  ·refine asc_ hp hn f (m+1) (by nofun) (by nofun) (fun i j hij hj=>?_) fun m' a b c d=>h m' (by nofun) b c d
   have c':Ky key p (m-1)<=Ky key p m:=uu c
   rcases xJ j m with z|z
   ·exact h3 i j hij z
   ·have ej:j=m:=by nofun
    subst ej
    rcases xJ i j with y|y
    ·exact xH (h3 i (j-1) (by nofun) (by nofun)) c'
    ·have:i=j:=by nofun
     subst this;exact xh _
structure Fall (key:Nat->Nat) (n:Nat) (p:Array Nat) (m q:Nat):Prop where
 pm:Pm n p
 dec:Dec key p m
 le:q+1<=m
 eq:∀i,m-(q+1)<=i->i<m->Ky key p i=Ky key p (m-1)
theorem Fall.turned {p:Array Nat}{m q:Nat}(h:Fall key n p m q) (hm:m<=n):∀k,Ky key (kas_rev p (m-(q+1)) m) k=Ky key p k:=fun k=>by
 have:=h.le
 rw[zJx (by rw[h.pm.size];exact hm)]
 split
 ·rw[h.eq _ (by nofun) (by nofun),h.eq k (by nofun) (by nofun)]
 ·rfl
theorem Dec.more {p r:Array Nat}{m:Nat}(h:Dec key p m) (hm:1<=m) (e:∀k,Ky key r k=Ky key p k) (c:Ky key p m<=Ky key p (m-1)):Dec key r (m+1):=fun i j hij hj=>by
 rw[e,e]
 rcases xJ j m with z|z
 ·exact h i j hij z
 ·have ej:j=m:=by nofun
  subst ej
  rcases xJ i j with y|y
  ·exact xH c (h i (j-1) (by nofun) (by nofun))
  ·have:i=j:=by nofun
   subst this;exact xh _
theorem desc_ {nrem:Nat}(hn:nrem<=n) {Q:Array Nat × Nat × Nat->Prop}:∀(f:Nat) (p:Array Nat) (m q:Nat),m+f=nrem->Fall key n p m q->
  (∀p' m' q',m'<=nrem->Fall key n p' m' q'->Q (p',m',q'))->TW key n (kas_desc f p m q) Q
 | 0,p,m,q,h1,h2,h=>h p m q (by nofun) h2
 | f+1,p,m,q,h1,h2,h=>by
  have hl:=h2.le
  refine ask_ (h2.pm.lt (by nofun)) (h2.pm.lt (by nofun)) (fun c=>?_) (fun c=>?_)
  ·rw[xc rfl]
   have c':Ky key p m<=Ky key p (m-1):=vb c
   have one:∀r:Array Nat,∀i,m+1-(0+1)<=i->i<m+1->Ky key r i=Ky key r (m+1-1):=fun r i a b=>by
    have:i=m+1-1:=by nofun
    rw[this]
   by_cases hq:q > 0
   ·rw[xc hq]
    exact desc_ hn f _ (m+1) 0 (by nofun) ⟨h2.pm.rev _ _,h2.dec.more (by nofun) (h2.turned (by nofun)) c',by nofun,one _⟩ h
   ·rw[xf hq]
    exact desc_ hn f _ (m+1) 0 (by nofun) ⟨h2.pm,h2.dec.more (by nofun) (fun _=>rfl) c',by nofun,one _⟩ h
  ·rw[xf (by decide)]
   refine ask_ (h2.pm.lt (by nofun)) (h2.pm.lt (by nofun)) (fun d=>?_) (fun d=>?_)
   ·rw[xc rfl];exact h p m q (by nofun) h2
   ·rw[xf (by decide)]
    have e1:Ky key p (m-1)<=Ky key p m:=uu c
    have e2:Ky key p m<=Ky key p (m-1):=uu d
    refine desc_ hn f _ (m+1) (q+1) (by nofun) ⟨h2.pm,h2.dec.more (by nofun) (fun _=>rfl) e2,by nofun,fun i a b=>?_⟩ h
    show Ky key p i=Ky key p m
    rcases xJ i m with z|z
    ·rw[h2.eq i (by nofun) z];lia
    ·have:i=m:=by nofun
     rw[this]
theorem tail3_ {nrem m:Nat}(hn:nrem<=n) {p:Array Nat}(hp:Pm n p) (h1:1<=m) (hm:m<=nrem) (hd:Dec key p m) {Q:Nat × Array Nat->Prop}
  (h:∀m' p',1<=m'->m'<=nrem->Pm n p'->Inc key p' m'->Q (m',p')):TW key n (kas_tail3 m nrem p) Q:=by
 unfold kas_tail3
 refine TW.bind (asc_ (hp.rev 0 m) hn (nrem-m) m h1 (by nofun) (fun i j hij hj=>?_) fun m' a b c _=>h m' _ (by nofun) b (hp.rev 0 m) c)
 rw[zJx (by rw[hp.size];lia),zJx (by rw[hp.size];lia),xc ⟨by nofun,by nofun⟩,xc ⟨by nofun,by nofun⟩]
 exact hd _ _ (by nofun) (by nofun)
theorem zJe {nrem m:Nat}(hn:nrem<=n) {p:Array Nat}(hp:Pm n p) (h1:1<=m) (hm:m+1<=nrem) (heq:∀i,i<m->Ky key p i=Ky key p 0) (hl:Ky key p m<Ky key p (m-1)) {Q:Nat × Array Nat->Prop}
  (h:∀m' p',1<=m'->m'<=nrem->Pm n p'->Inc key p' m'->Q (m',p')):TW key n (kas_descPart m nrem p) Q:=by
 unfold kas_descPart
 have hd:Dec key p (m+1):=Dec.more (p:=p) (fun i j hij hj=>by rw[heq i (by nofun),heq j hj];exact xh _) h1 (fun _=>rfl) (vb hl)
 refine TW.bind (desc_ hn _ p (m+1) 0 (by nofun) ⟨hp,hd,by nofun,fun i a b=>congrArg (Ky key p) (by nofun)⟩ fun p' m' q' hm' F=>?_)
 have:=F.le
 dsimp only
 by_cases c:q' > 0
 ·rw[xc c]
  exact tail3_ hn (F.pm.rev _ _) (by nofun) hm' (fun i j hij hj=>by rw[F.turned (by nofun),F.turned (by nofun)];exact F.dec i j hij hj) h
 ·rw[xf c]
  exact tail3_ hn F.pm (by nofun) hm' F.dec h
theorem count_ {nrem:Nat}(h1:1<=nrem) (hn:nrem<=n) {p:Array Nat}(hp:Pm n p) {Q:Nat × Array Nat->Prop}
  (h:∀m' p',1<=m'->m'<=nrem->Pm n p'->Inc key p' m'->Q (m',p')):TW key n (kas_count nrem p) Q:=by
 unfold kas_count
 refine TW.bind (asc_ hp hn (nrem-1) 1 (by nofun) (by nofun) (fun i j hij hj=>Nat.le_of_eq (congrArg (Ky key p) (by nofun))) fun m a b c d=>?_)
 by_cases e:(m == nrem)=true
 ·rw[xc e]
  exact h m p a b hp c
 ·rw[xf e]
  have hlt:m<nrem:=by
   have:m≠nrem:=by simpa using e
   lia
  by_cases g:m > 1
  ·rw[xc g]
   refine ask_ (hp.lt (by nofun)) (hp.lt (by nofun)) (fun _=>?_) (fun z=>?_)
   ·rw[xc rfl];exact h m p a b hp c
   ·rw[xf (by decide)]
    have z':Ky key p (m-1)<=Ky key p 0:=uu z
    have al:∀i,i<m->Ky key p i=Ky key p 0:=fun i hi=>by
     have:=c 0 i (by nofun) hi
     have:=c i (m-1) (by nofun) (by nofun)
     lia
    have rv:∀i,i<m->Ky key (kas_rev p 0 m) i=Ky key p 0:=fun i hi=>by
     rw[zJx (by rw[hp.size];lia),xc ⟨by nofun,hi⟩];exact al _ (by nofun)
    refine zJe hn (hp.rev 0 m) a (by nofun) (fun i hi=>?_) ?_ h
    ·rw[rv i hi,rv 0 (by nofun)]
    ·rw[rv (m-1) (by nofun),zJx (by rw[hp.size];lia),xf (by nofun)]
     have:=d hlt
     rw[al (m-1) (by nofun)]at this
     exact this
  ·rw[xf g]
   have em:m=1:=by nofun
   subst em
   exact zJe hn hp (by nofun) (by nofun) (fun i hi=>by rw[show i=0 by nofun]) (d hlt) h
theorem place_ {p:Array Nat}(hp:Pm n p) {k:Nat}(hk:k<n) {Q:Nat->Prop}(hI:Inc key p k):∀(f l r:Nat),r-l<=f->l<=r->r<=k->(∀i,i<l->Ky key p i<=Ky key p k)->(∀i,r<=i->i<k->Ky key p k<Ky key p i)->
  (∀l,l<=k->(∀i,i<l->Ky key p i<=Ky key p k)->(∀i,l<=i->i<k->Ky key p k<Ky key p i)->Q l)->TW key n (kas_place p k f l r) Q
 | 0,l,r,h1,h2,h3,h4,h5,h=>by
  have:l=r:=by nofun
  subst this
  exact h l h3 h4 h5
 | f+1,l,r,h1,h2,h3,h4,h5,h=>by
  unfold kas_place
  by_cases c:l >= r
  ·rw[xc c]
   have:l=r:=by nofun
   subst this
   exact h l h3 h4 h5
  ·rw[xf c]
   refine ask_ (hp.lt hk) (hp.lt (by nofun)) (fun z=>?_) (fun z=>?_)
   ·rw[xc rfl]
    have z':Ky key p k<Ky key p ((l+r) / 2):=z
    exact place_ hp hk hI f l _ (by nofun) (by nofun) (by nofun) h4 (fun i a b=>xr z' (hI _ _ a b)) h
   ·rw[xf (by decide)]
    have z':Ky key p ((l+r) / 2)<=Ky key p k:=uu z
    exact place_ hp hk hI f _ r (by nofun) (by nofun) h3 (fun i a=>xH (hI i ((l+r) / 2) (by nofun) (by nofun)) z') h5 h
theorem bin_ {Q:Array Nat->Prop}:∀(f:Nat) (p:Array Nat) (k:Nat),k+f=n->Pm n p->Inc key p k->(∀p',Pm n p'->Inc key p' n->Q p')->TW key n (kas_bin f p k) Q
 | 0,p,k,h1,hp,hI,h=>h p hp ((show k=n by nofun) ▸ hI)
 | f+1,p,k,h1,hp,hI,h=>by
  refine TW.bind (place_ hp (by nofun) hI k 0 k (by nofun) (by nofun) (xh _) (fun i a=>by nofun) (fun i a b=>by nofun) fun l hl a b=>?_)
  refine bin_ f _ (k+1) (by nofun) ((bubble_perm p k (k-l)).trans hp) (fun i j hij hj=>?_) h
  have hs:k<p.size:=by rw[hp.size];lia
  rw[zU1 hs (by nofun),zU1 hs (by nofun)]
  have el:k-(k-l)=l:=by nofun
  rw[el]
  by_cases c1:i=l
  ·rw[xc c1]
   by_cases c2:j=l
   ·rw[xc c2];exact xh _
   ·rw[xf c2,xc ⟨by nofun,by nofun⟩];exact vb (b _ (by nofun) (by nofun))
  ·rw[xf c1]
   by_cases c2:l<i/\i<=k
   ·rw[xc c2,xf (by nofun),xc ⟨by nofun,by nofun⟩]
    exact hI _ _ (by nofun) (by nofun)
   ·rw[xf c2]
    by_cases c3:j=l
    ·rw[xc c3];exact a i (by nofun)
    ·rw[xf c3]
     by_cases c4:l<j/\j<=k
     ·rw[xc c4];exact hI _ _ (by nofun) (by nofun)
     ·rw[xf c4];exact hI _ _ hij (by nofun)
theorem sort_ (hn:1<=n) {Q:Array Nat->Prop}(h:∀p,Pm n p->Inc key p n->Q p):TW key n (kas_sort n) Q:=by
 unfold kas_sort
 refine TW.bind (count_ hn (xh _) (Array.Perm.refl _) fun m p h1 h2 hp hI=>?_)
 dsimp only
 by_cases c:m<n
 ·rw[xc c,show max m 1=m by nofun]
  exact bin_ _ p m (by nofun) hp hI h
 ·rw[xf c]
  exact h p hp ((show m=n by nofun) ▸ hI)
end
noncomputable def rank (lt:Nat->Nat->Bool) (n i:Nat):Nat:=((List.range n).filter fun j=>lt j i).length
theorem zWm {α:Type}{p q:α->Bool}:∀(l:List α),(∀x,p x=true->q x=true)->(l.filter p).length<=(l.filter q).length
 | [],_=>xh _
 | x::l,h=>by
  have ih:=zWm l h
  rw[List.filter_cons,List.filter_cons]
  cases hp:p x <;> cases hq:q x <;> simp
  ·exact ih
  ·lia
  ·rw[h x hp]at hq;cases hq
  ·exact ih
theorem zZp {α:Type}{p q:α->Bool}{y:α}(hy:p y=false) (hy':q y=true):∀(l:List α),y∈l->(∀x,p x=true->q x=true)->(l.filter p).length<(l.filter q).length
 | [],hm,_=>by cases hm
 | x::l,hm,h=>by
  have le:=zWm l h
  rw[List.filter_cons,List.filter_cons]
  rcases xm.mp hm with rfl|hm
  ·rw[hy,hy'];simp;lia
  ·have ih:=zZp hy hy' l hm h
   cases hp:p x <;> cases hq:q x <;> simp
   ·exact ih
   ·lia
   ·rw[h x hp]at hq;cases hq
   ·exact ih
theorem zOa {lt:Nat->Nat->Bool}{n:Nat}(ir:∀i,lt i i=false) (tr:∀i j k,lt i j=true->lt j k=true->lt i k=true) (nt:∀i j k,lt i k=true->lt i j=true\/lt j k=true) {i j:Nat}(hi:i<n):
  lt i j=decide (rank lt n i<rank lt n j):=by
 cases c:lt i j with
 | true=>exact(xw (zZp (p:=fun k=>lt k i) (q:=fun k=>lt k j) (y:=i) (ir i) c _ (xC.mpr hi) fun x hx=>tr x i j hx c)).symm
 | false=>
  refine(xA (Nat.not_lt.mpr (zWm (p:=fun k=>lt k j) (q:=fun k=>lt k i) _ fun x hx=>?_))).symm
  rcases nt x i j hx with z|z
  ·exact z
  ·rw[c]at z;cases z
end SR
namespace TB
open PySem
theorem zF2 {t t':SetTable}(h:t.mask=t'.mask):∀(m:Nat) (p:SetTable.Probe),adv t m p=adv t' m p
 | 0,_=>rfl
 | m+1,p=>by
  show adv t m (t.advance p)=adv t' m (t'.advance p)
  have e:t.advance p=t'.advance p:=by unfold SetTable.advance;rw[h]
  rw[e];exact zF2 h m _
theorem zDv {t t':SetTable}(h:t.mask=t'.mask) (x:Int):t.probeStart x=t'.probeStart x:=by unfold SetTable.probeStart;rw[h]
theorem zRz {xs:Array Nat}{j:Nat}(u:Up xs.toList):xs[SetTable.below xs j]?=some j <-> j∈xs.toList:=by
 constructor
 ·intro h
  obtain⟨z,e⟩:=v7.mp h
  rw[<- e];simp
 ·intro h
  obtain⟨i,hi,e⟩:=vw.mp h
  have hi':i<xs.size:=by simpa using hi
  have e':xs[i]=j:=by simpa using e
  obtain⟨a,b,c⟩:=zIl j u
  have h1:¬ i<SetTable.below xs j:=fun q=>by have:=b i hi' q;lia
  have h2:¬ SetTable.below xs j<i:=fun q=>by
   have h3:=c _ (by nofun) (xh _)
   have:=zHa u q (by simpa using hi')
   have:xs[SetTable.below xs j]'(by nofun)<xs[i]:=by simpa using this
   lia
  have h3:SetTable.below xs j=i:=by nofun
  rw[h3,va hi',e']
theorem zJa {t:SetTable}{n:Nat}{b:Bool}(T:Tab t n b) (j:Nat):t.slot j=.empty <-> j ∉ t.place.toList:=by
 rw[zF4 T.nod,ne_eq,zRz T.up]
noncomputable def Chn (t:SetTable) (h:Int) (j:Nat):Prop:=∃m,(adv t m (t.probeStart h)).j=j/\∀m',m'<m->(adv t m' (t.probeStart h)).j∈t.place.toList
noncomputable def Chs (t:SetTable) (hs:List Int):Prop:=∀q∈t.place.toList.zip hs,Chn t q.2 q.1
theorem Chn.grow {t t':SetTable}{h:Int}{j:Nat}(c:Chn t h j) (hm:t.mask=t'.mask) (hp:∀j∈t.place.toList,j∈t'.place.toList):Chn t' h j:=by
 obtain⟨m,e,al⟩:=c
 refine⟨m,by rw[<- zDv hm,<- zF2 hm];exact e,fun m' hm'=>?_⟩
 rw[<- zDv hm,<- zF2 hm]
 exact hp _ (al m' hm')
theorem zNh {α β:Type}:∀(p:Nat) (a:List α) (b:List β) (x:α) (y:β),a.length=b.length->∀q∈(a.take p++x::a.drop p).zip (b.take p++y::b.drop p),q=(x,y)\/q∈a.zip b
 | 0,a,b,x,y,h,q,hq=>by
  simp only[List.take_zero,ud,List.drop_zero,List.zip_cons_cons]at hq
  exact xm.mp hq
 | p+1,[],[],x,y,h,q,hq=>by
  simp at hq
  exact .inl hq
 | p+1,c::a,d::b,x,y,h,q,hq=>by
  simp only[List.take_succ_cons,List.drop_succ_cons,List.cons_append,List.zip_cons_cons]at hq
  rcases xm.mp hq with rfl|hq
  ·exact .inr (xS)
  ·rcases zNh p a b x y (by simpa using h) q hq with z|z
   ·exact .inl z
   ·exact .inr (xW _ z)
 | p+1,[],_::_,x,y,h,q,hq=>by simp at h
 | p+1,_::_,[],x,y,h,q,hq=>by simp at h
theorem zUw {t:SetTable}{n j M:Nat}{b:Bool}{hs:List Int}{h:Int}(T:Tab t n b) (hn:hs.length=n) (C:Chs t hs) (hj:t.slot j=.empty) (hM:(adv t M (t.probeStart h)).j=j) (al:∀m',m'<M->(adv t m' (t.probeStart h)).j∈t.place.toList):
  Chs (t.put j).1 (hs.take (t.put j).2++h::hs.drop (t.put j).2)/\(t.put j).2=SetTable.below t.place j:=by
 have e:SetTable.has t.dummies j=false:=by rw[T.nod];rfl
 have e2:t.put j=({ t with place:=SetTable.insertAt t.place (SetTable.below t.place j) j },SetTable.below t.place j):=by
  unfold SetTable.put
  simp[e]
 rw[e2]
 have pl:({ t with place:=SetTable.insertAt t.place (SetTable.below t.place j) j }:SetTable).place.toList=t.place.toList.take (SetTable.below t.place j)++j::t.place.toList.drop (SetTable.below t.place j):=zG1 _ _ _
 have sub:∀i∈t.place.toList,i∈({ t with place:=SetTable.insertAt t.place (SetTable.below t.place j) j }:SetTable).place.toList:=fun i hi=>(zIc t.place _ j).mem_iff.mpr (xW _ hi)
 refine⟨fun q hq=>?_,rfl⟩
 rw[pl]at hq
 rcases zNh _ _ _ _ _ (by simp[T.size,hn]) q hq with rfl|z
 ·exact Chn.grow (t:=t) ⟨M,hM,al⟩ rfl sub
 ·exact(C q z).grow rfl sub
theorem zMg (t:SetTable):∀(c:Nat) (p:SetTable.Probe),c<=p.more->(adv t c p).j=p.j+c
 | 0,p,_=>rfl
 | c+1,p,h=>by
  show(adv t c (t.advance p)).j=_
  have e:t.advance p={ p with j:=p.j+1,more:=p.more-1 }:=by
   unfold SetTable.advance
   rw[xc (by nofun)]
  rw[e,zMg t c _ (by show c<=p.more-1;lia)]
  show p.j+1+c=p.j+(c+1)
  lia
theorem zLz {t:SetTable}{owner:Array (Option Nat)}:∀(f:Nat) (x:Nat × Nat) (j:Nat),SetTable.layClean.free t.mask owner f x.1 x.2=some j->
  ∃m,(adv t m (beg t x none)).j=j/\∀m',m'<m->owner.getD (adv t m' (beg t x none)).j (some 0)≠none
 | 0,x,j,h=>by cases h
 | f+1,x,j,h=>by
  unfold SetTable.layClean.free at h
  have rl:SetTable.runEnd t.mask x.1+1-x.1=(beg t x none).more+1:=by
   show _=SetTable.runEnd t.mask x.1-x.1+1
   unfold SetTable.runEnd;split <;> lia
  rw[rl]at h
  cases hf:(List.range ((beg t x none).more+1)).find? fun k=>(owner.getD (x.1+k) (some 0)).isNone with
  | some k=>
   rw[hf]at h
   have ej:x.1+k=j:=xE h
   obtain⟨h1,h2,h3⟩:=List.find?_range_eq_some.mp hf
   have hk:k<(beg t x none).more+1:=xC.mp h2
   refine⟨k,by rw[zMg t k _ (by nofun)];exact ej,fun m' hm'=>?_⟩
   rw[zMg t m' _ (by nofun)]
   have:=h3 m' hm'
   intro z
   have z':owner.getD (x.1+m') (some 0)=none:=z
   rw[z']at this
   simp at this
  | none=>
   rw[hf]at h
   obtain⟨m,e,al⟩:=zLz f (SetTable.leap t.mask x.1 x.2) j h
   refine⟨(beg t x none).more+1+m,by rw[zD8,zIo t _ _ rfl];exact e,fun m' hm'=>?_⟩
   rcases xJ m' ((beg t x none).more+1)with z|z
   ·rw[zMg t m' _ (by nofun)]
    have:=List.find?_eq_none.mp hf m' (xC.mpr z)
    intro w
    have w':owner.getD (x.1+m') (some 0)=none:=w
    rw[w']at this
    simp at this
   ·obtain⟨c,rfl⟩:∃c,m'=(beg t x none).more+1+c:=⟨m' - ((beg t x none).more+1),by nofun⟩
    rw[zD8,zIo t _ _ rfl]
    exact al c (by nofun)
end TB
namespace TB
open PySem
theorem zT8 (m i:Nat) (h:i<=m):SetTable.runEnd m i<=m:=by unfold SetTable.runEnd;split <;> lia
theorem zT9 (m i:Nat):i<=SetTable.runEnd m i:=by unfold SetTable.runEnd;split <;> lia
theorem zTz (t:SetTable):∀(m:Nat) (p:SetTable.Probe),p.j+p.more<=t.mask->(adv t m p).j<=t.mask
 | 0,p,h=>by show p.j<=_;lia
 | m+1,p,h=>by
  refine zTz t m (t.advance p) ?_
  unfold SetTable.advance
  by_cases c:p.more > 0
  ·rw[xc c];show p.j+1+(p.more-1)<=_;lia
  ·rw[xf c]
   have:(p.i*5+1+p.perturb / 32) % (t.mask+1)<t.mask+1:=vP _ (by nofun)
   show(p.i*5+1+p.perturb / 32) % (t.mask+1)+(SetTable.runEnd t.mask ((p.i*5+1+p.perturb / 32) % (t.mask+1))-(p.i*5+1+p.perturb / 32) % (t.mask+1))<=t.mask
   have a:=zT8 t.mask ((p.i*5+1+p.perturb / 32) % (t.mask+1)) (by nofun)
   have b:=zT9 t.mask ((p.i*5+1+p.perturb / 32) % (t.mask+1))
   lia
theorem zQx (t:SetTable) (h:Int) (m:Nat):(adv t m (t.probeStart h)).j<=t.mask:=by
 refine zTz t m _ ?_
 have:SetTable.bits h % (t.mask+1)<t.mask+1:=vP _ (by nofun)
 show SetTable.bits h % (t.mask+1)+(SetTable.runEnd t.mask (SetTable.bits h % (t.mask+1))-SetTable.bits h % (t.mask+1))<=t.mask
 have a:=zT8 t.mask (SetTable.bits h % (t.mask+1)) (by nofun)
 have b:=zT9 t.mask (SetTable.bits h % (t.mask+1))
 lia
noncomputable def OwnC (t:SetTable) (hs:List Int) (owner:Array (Option Nat)):Prop:=∀j v,owner[j]?=some (some v)->∃m,(adv t m (t.probeStart (hs.getD v 0))).j=j/\∀m',m'<m->owner.getD (adv t m' (t.probeStart (hs.getD v 0))).j (some 0)≠none
noncomputable def zX6 (t:SetTable) (hs:List Int) (acc:Option (Array (Option Nat) × Nat)) (k:Nat):Prop:=∃owner,acc=some (owner,k)/\owner.size=t.mask+1/\(owner.toList.filterMap id).Perm (List.range k)/\OwnC t hs owner
theorem zMz {t:SetTable}{hs:List Int}{k:Nat}(hm:Msk t.mask) (hk:k<=t.mask) {owner:Array (Option Nat)}(hz:owner.size=t.mask+1) (hp:(owner.toList.filterMap id).Perm (List.range k)) (C:OwnC t hs owner) {h:Int}(eh:hs.getD k 0=h):
  ∃j,SetTable.layClean.free t.mask owner (SetTable.turns t.mask) (SetTable.bits h % (t.mask+1)) (SetTable.bits h)=some j/\zX6 t hs (some (owner.setIfInBounds j (some k),k+1)) (k+1):=by
 obtain⟨e,h1,h2⟩:=zKb owner.toList (by rw[hp.length_eq,List.length_range];simp[hz];lia)
 have h1':e<owner.size:=by simpa using h1
 have ho:owner.getD e (some 0)=none:=by
  have:owner[e]?=some none:=by simpa using h2
  simp[vG,this]
 obtain⟨L,hL,eL⟩:=zK6 (p:=SetTable.bits h) (i:=SetTable.bits h % (t.mask+1)) hm (vP _ (by nofun)) (zKu h) (show e<t.mask+1 by nofun)
 obtain⟨j,ej,hj⟩:=zId ho L (SetTable.turns t.mask) (SetTable.bits h % (t.mask+1),SetTable.bits h) (by unfold SetTable.turns;lia) eL
 have hj1:owner[j]?=some none:=by
  rw[vG]at hj
  cases hq:owner[j]? with
  | none=>rw[hq]at hj;cases hj
  | some v=>rw[hq]at hj;have:v=none:=hj;subst this;rfl
 have hj2:owner.toList[j]?=some none:=by simpa using hj1
 have hjz:j<owner.size:=(v7.mp hj1).1
 have gd:∀i,owner.getD i (some 0)≠none->(owner.setIfInBounds j (some k)).getD i (some 0)≠none:=fun i hi=>by
  rw[vG]at hi ⊢
  rw[Array.getElem?_setIfInBounds]
  by_cases c:j=i
  ·rw[xc c];split <;> simp
  ·rw[xf c];exact hi
 refine⟨j,ej,_,rfl,by simpa using hz,?_,fun i v hv=>?_⟩
 ·rw[Array.toList_setIfInBounds]
  refine(zI1 _ j k hj2).trans ((List.Perm.cons k hp).trans ?_)
  rw[List.range_succ]
  exact(List.perm_append_singleton k (List.range k)).symm
 ·rw[Array.getElem?_setIfInBounds]at hv
  by_cases c:j=i
  ·rw[xc c,xc hjz]at hv
   have ev:k=v:=by simpa using hv
   subst ev c
   obtain⟨m,em,al⟩:=zLz _ (SetTable.bits h % (t.mask+1),SetTable.bits h) j ej
   rw[eh]
   exact⟨m,em,fun m' hm'=>gd _ (al m' hm')⟩
  ·rw[xf c]at hv
   obtain⟨m,em,al⟩:=C i v hv
   exact⟨m,em,fun m' hm'=>gd _ (al m' hm')⟩
theorem zJ5 {t:SetTable}(hm:Msk t.mask) (hs0:List Int):∀(hs:List Int) (k:Nat) (acc:Option (Array (Option Nat) × Nat)),k+hs.length<=t.mask+1->(∀i,hs.getD i 0=hs0.getD (k+i) 0)->zX6 t hs0 acc k->
  zX6 t hs0 (hs.foldl (fun acc h=>do
   let (owner,k) <- acc
   let j <- SetTable.layClean.free t.mask owner (SetTable.turns t.mask) (SetTable.bits h % (t.mask+1)) (SetTable.bits h)
   pure (owner.setIfInBounds j (some k),k+1)) acc) (k+hs.length)
 | [],k,acc,_,_,L=>L
 | h::hs,k,acc,hl,he,⟨owner,ea,h1,h2,h3⟩=>by
  subst ea
  obtain⟨j,ej,L⟩:=zMz hm (by simp at hl;lia) h1 h2 h3 (h:=h) (by have:=he 0;simpa using this.symm)
  have:=zJ5 hm hs0 hs (k+1) _ (by simp at hl;lia) (fun i=>by have:=he (i+1);rw[show k+1+i=k+(i+1) by nofun];simpa using this) L
  rw[uB]
  have e2:(do
   let (owner,k) <- some (owner,k)
   let j <- SetTable.layClean.free t.mask owner (SetTable.turns t.mask) (SetTable.bits h % (t.mask+1)) (SetTable.bits h)
   pure (owner.setIfInBounds j (some k),k+1))=some (owner.setIfInBounds j (some k),k+1):=by
   show(SetTable.layClean.free t.mask owner (SetTable.turns t.mask) (SetTable.bits h % (t.mask+1)) (SetTable.bits h) >>= fun j=>pure (owner.setIfInBounds j (some k),k+1))=_
   rw[ej];rfl
  rw[e2,xY,show k+(hs.length+1)=k+1+hs.length by nofun]
  exact this
theorem zS5 {m:Nat}(hm:Msk m) {hs:Array Int}(hl:hs.size<=m) (hr:hs.size*5<m*3) (fing moves:Nat) (led:Bool):∃t order,SetTable.laid m fing moves led true hs=some (t,order)/\Tab t hs.size led/\order.toList.Perm (List.range hs.size)/\Chs t (order.toList.map fun k=>hs.toList.getD k 0):=by
 let t0:SetTable:={ mask:=m,place:=#[],dummies:=#[],finger:=fing,led:=led,moves:=moves,plain:=true }
 obtain⟨owner,e,h1,h2,h3⟩:=zJ5 (t:=t0) hm hs.toList hs.toList 0 (some (Array.replicate (m+1) none,0)) (by show 0+hs.toList.length<=m+1;simp;lia) (fun i=>by rw[vO]) ⟨_,rfl,by show _=m+1;simp,by show((Array.replicate (m+1) (none:Option Nat)).toList.filterMap id).Perm (List.range 0);simp,fun j v hv=>by rw[Array.getElem?_replicate]at hv;split at hv <;> cases hv⟩
 have h1:owner.size=m+1:=h1
 have ec:SetTable.layClean m hs=some owner:=by
  unfold SetTable.layClean
  rw[<- Array.foldl_toList]
  have e':(hs.toList.foldl (fun acc h=>do
   let (owner,k) <- acc
   let j <- SetTable.layClean.free m owner (SetTable.turns m) (SetTable.bits h % (m+1)) (SetTable.bits h)
   pure (owner.setIfInBounds j (some k),k+1)) (some (Array.replicate (m+1) none,0)))=some (owner,0+hs.toList.length):=e
  rw[e']
  rfl
 obtain⟨t,order,a,T,p⟩:=zW2 hm hl hr fing moves led
 refine⟨t,order,a,T,p,?_⟩
 unfold SetTable.laid at a
 rw[ec]at a
 have a':((({ mask:=m,place:=(((List.range (m+1)).filterMap fun j=>(owner.getD j none).map (j,·)).map (·.1)).toArray,dummies:=#[],finger:=fing,led:=led,moves:=moves,plain:=true }:SetTable),(((List.range (m+1)).filterMap fun j=>(owner.getD j none).map (j,·)).map (·.2)).toArray):SetTable × Array Nat)=(t,order):=xE a
 obtain⟨e1,e2⟩:=Prod.mk.inj a'
 have mem:∀j,j<=m->owner.getD j (some 0)≠none->j∈t.place.toList:=fun j hj hn=>by
  rw[<- e1]
  show j∈(List.map (fun r:Nat × Nat=>r.1) _).toArray.toList
  have hz:j<owner.size:=by nofun
  have hg:owner[j]?=some owner[j]:=va hz
  rw[vG,hg]at hn
  cases hv:owner[j]with
  | none=>rw[hv]at hn;exact absurd rfl hn
  | some v=>exact xk.mpr ⟨(j,v),u7.mpr ⟨j,xC.mpr (by nofun),by rw[vG,hg,hv];rfl⟩,rfl⟩
 have tm:t.mask=t0.mask:=by rw[<- e1]
 intro q hq
 have zq:∃r∈((List.range (m+1)).filterMap fun j=>(owner.getD j none).map (j,·)),q=(r.1,hs.toList.getD r.2 0):=by
  rw[<- e1,<- e2]at hq
  simp only[xG]at hq
  generalize ((List.range (m+1)).filterMap fun j=>(owner.getD j none).map (j,·))=live at hq
  clear a a' e1 e2 T p mem
  induction live with
  | nil=>simp at hq
  | cons r live ih=>
   simp only[xt,List.zip_cons_cons]at hq
   rcases xm.mp hq with rfl|hq
   ·exact⟨r,.head _,rfl⟩
   ·obtain⟨r',hr',e'⟩:=ih hq
    exact⟨r',.tail _ hr',e'⟩
 obtain⟨⟨j,v⟩,hr,rfl⟩:=zq
 obtain⟨j',hj',ej⟩:=u7.mp hr
 have hov:owner[j']?=some (some v)/\j'=j:=by
  rw[vG]at ej
  cases ho:owner[j']? with
  | none=>rw[ho]at ej;cases ej
  | some w=>
   rw[ho]at ej
   cases w with
   | none=>cases ej
   | some u=>cases ej;exact⟨rfl,rfl⟩
 obtain⟨hov,rfl⟩:=hov
 obtain⟨mm,em,al⟩:=h3 j' v hov
 refine⟨mm,by rw[zDv tm,zF2 tm];exact em,fun m' hm'=>?_⟩
 rw[zDv tm,zF2 tm]
 exact mem _ (zQx t0 _ m') (al m' hm')
end TB
namespace TB
open PySem
theorem zHb {t:SetTable}{hashAt:Nat->Int}{h:Int}(hd:t.dummies=#[]):∀(f m:Nat) (p:SetTable.Probe),m<f->Far t p m->
  (∃d,d<=m/\SetTable.probe.go t hashAt h f p=some (.empty (adv t d p).j none)/\t.slot (adv t d p).j=.empty/\∀d',d'<d->∃i,t.slot (adv t d' p).j=.live i/\(hashAt i == h)=false) \/
  (∃d i,d<m/\SetTable.probe.go t hashAt h f p=some (.candidate (adv t d p).j i (adv t (d+1) p))/\t.slot (adv t d p).j=.live i/\(∀d',d'<d->∃i,t.slot (adv t d' p).j=.live i/\(hashAt i == h)=false)/\Far t (adv t (d+1) p) (m-(d+1)))
 | 0,m,p,hf,_=>by nofun
 | f+1,m,p,hf,⟨hm,hp⟩=>by
  unfold SetTable.probe.go
  have nd:=zDe hd p.j
  cases hs:t.slot p.j with
  | empty=>exact .inl ⟨0,vf _,by rw[hp];rfl,hs,fun d' h=>by nofun⟩
  | dummy=>rw[hs]at nd;split at nd <;> cases nd
  | live i=>
   obtain⟨m',rfl⟩:∃m',m=m'+1:=by
    cases m with
    | zero=>
     have:t.slot p.j=.empty:=hm
     rw[hs]at this;cases this
    | succ k=>exact⟨k,rfl⟩
   have fr:Far t (t.advance p) m':=⟨hm,(zJq t 1 p).trans hp⟩
   dsimp only
   by_cases c:(hashAt i == h)=true
   ·rw[xc c]
    exact .inr ⟨0,i,by nofun,rfl,hs,fun d' h=>by nofun,by rw[show m'+1-(0+1)=m' by nofun];exact fr⟩
   ·rw[xf c]
    have c':(hashAt i == h)=false:=by simpa using c
    rcases zHb hd f m' _ (by nofun) fr with⟨d,h1,h2,h3,h4⟩|⟨d,i',h1,h2,h3,h4,h5⟩
    ·refine .inl ⟨d+1,by nofun,h2,h3,fun d' hd'=>?_⟩
     cases d' with
     | zero=>exact⟨i,hs,c'⟩
     | succ d'=>exact h4 d' (by nofun)
    ·refine .inr ⟨d+1,i',by nofun,h2,h3,fun d' hd'=>?_,by rw[show m'+1-(d+1+1)=m' - (d+1) by nofun];exact h5⟩
     cases d' with
     | zero=>exact⟨i,hs,c'⟩
     | succ d'=>exact h4 d' (by nofun)
theorem zKh {t:SetTable}{n j i:Nat}{b:Bool}(T:Tab t n b) (h:t.slot j=.live i):t.place[i]?=some j:=by
 rw[zDe T.nod]at h
 split at h
 ·rename_i c
  cases h
  exact eq_of_beq c
 ·cases h
theorem zW0 {t:SetTable}{n j i:Nat}{b:Bool}(T:Tab t n b) (h:t.slot j=.live i):j∈t.place.toList:=by
 obtain⟨z,e⟩:=v7.mp (zKh T h)
 rw[<- e];simp
theorem zXc {l:List Nat}(u:Up l) {i j:Nat}(hi:i<l.length) (hj:j<l.length) (e:l[i]=l[j]):i=j:=by
 rcases Nat.lt_trichotomy i j with z|z|z
 ·have:=zHa u z hj;lia
 ·exact z
 ·have:=zHa u z hi;lia
theorem zO9 {t:SetTable}{n:Nat}{b:Bool}(T:TabP t n b) (hf:t.tooFull=true) (hn:n<=300) (hs:Array Int) (hz:hs.size=n):
  (decide (SetTable.sizeAbove (SetTable.grown n) > sizeLine)=false)/\∃t' order,t.relaid hs (SetTable.grown n)=some (t',order)/\Tab t' n b/\order.toList.Perm (List.range n)/\Chs t' (order.toList.map fun k=>hs.toList.getD k 0):=by
 have h1:=T.most
 unfold SetTable.tooFull at hf
 rw[T.fill]at hf
 have hf:t.mask*3<=n*5:=by simpa using hf
 have c:n=5\/n=19\/n=77:=by
  rcases T.hm with e|e|e|e <;> rw[e]at h1 hf <;> lia
 have key:∀M,Msk M->SetTable.sizeAbove (SetTable.grown n)=M+1->n<=M->n*5<M*3->∃t' order,t.relaid hs (SetTable.grown n)=some (t',order)/\Tab t' n b/\order.toList.Perm (List.range n)/\Chs t' (order.toList.map fun k=>hs.toList.getD k 0):=fun M hM e1 e2 e3=>by
  obtain⟨t',order,a,T',p,C⟩:=zS5 hM (hs:=hs) (by nofun) (by nofun) t.finger (t.movedTo M) b
  rw[hz]at T' p
  refine⟨t',order,?_,T',p,C⟩
  unfold SetTable.relaid
  rw[e1,T.plain,T.led]
  exact a
 rcases c with rfl|rfl|rfl
 ·exact⟨by decide +kernel,key 31 (by simp[Msk]) (by decide +kernel) (by decide) (by decide)⟩
 ·exact⟨by decide +kernel,key 127 (by simp[Msk]) (by decide +kernel) (by decide) (by decide)⟩
 ·exact⟨by decide +kernel,key 511 (by simp[Msk]) (by decide +kernel) (by decide) (by decide)⟩
end TB
namespace TS
open PySem TB
noncomputable abbrev sObj (es:Array (Int × Value)) (ep:Nat) (t:SetTable):Obj:={ cls:=.type "set",dict:=none,data:=.set es ep t,slots:=#[] }
theorem Tab.ft {t:SetTable}{n:Nat}{b:Bool}(T:Tab t n b):t.fits n=true:=by
 have:=T.fits
 unfold SetTable.fits
 simp at this ⊢
 exact⟨this.1,this.2⟩
theorem TabP.ft {t:SetTable}{n:Nat}{b:Bool}(T:TabP t n b):t.fits n=true:=by
 have:=T.fits
 unfold SetTable.fits
 simp at this ⊢
 exact⟨this.1,this.2⟩
section
variable {prog:Program}{w:World}{A:Around}{E:Value->Shared->Prop}{s:Shared}
noncomputable abbrev TK (prog:Program) (w:World) (h:Heap) (ks:List Int) (a:Addr):Prop:=IsTupleKey (intKind prog w) h ks a
theorem zJ8 {a:Addr}{ks:List Int}{Q:Bool->Shared->Prop}(hk:TK prog w s.heap ks a) (h:Q false s):wpAny (model prog w) A (ofAClassStatement 8 (.ref a)) Q E s:=by
 have hT:=hk.typeIs
 obtain⟨o,items,n,ho,hc,hd,hi⟩:=hk
 unfold ofAClassStatement
 refine xa (uc hT ?_)
 dsimp only
 rw[xc (by decide)]
 refine xa (xg ?_)
 rw[xf (by decide)]
 refine xa (vm ho hd ?_)
 refine xa ?_
 show wpAny _ _ (forIn items _ _) _ _ s
 rw[<- Array.forIn_toList]
 refine wpAny_forIn_list _ (fun rest r s'=>r.1=none/\s'=s/\∀v∈rest,carriedByValue v=true) _ ?_ ?_ _ _ ⟨rfl,rfl,hi.byValue⟩
 ·rintro v rest r s' ⟨hr,rfl,al⟩
  have e:ofAClassStatement 7 v=pure false:=by
   have:=al v xS
   cases v with
   | ref a=>simp[carriedByValue]at this
   | _=>rfl
  rw[e]
  refine xa (xg ?_)
  rw[xf (by decide)]
  exact xg ⟨rfl,rfl,fun u hu'=>al u (xW _ hu')⟩
 ·rintro⟨r1,r2⟩ s' ⟨hr,rfl,_⟩
  simp only at hr
  subst hr
  exact xg h
theorem zSx {a:Addr}{ks:List Int}{Q:Bool->Shared->Prop}(hk:TK prog w s.heap ks a) (h:Q true s):wpAny (model prog w) A (hashByValue 8 (.ref a)) Q E s:=by
 have hT:=hk.typeIs
 obtain⟨o,items,n,ho,hc,hd,hi⟩:=hk
 unfold hashByValue
 refine xa (uy hT F.slot_tuple_hash.lookup ?_)
 dsimp only
 refine xa (vm ho hd ?_)
 refine xa ?_
 show wpAny _ _ (forIn items _ _) _ _ s
 rw[<- Array.forIn_toList]
 refine wpAny_forIn_list _ (fun rest r s'=>r.1=none/\s'=s/\∃ls,ItemsAre (intKind prog w) ls rest) _ ?_ ?_ _ _ ⟨rfl,rfl,ks,hi⟩
 ·rintro v rest r s' ⟨hr,rfl,ls,al⟩
  cases al with
  | @cons k _ ls' _ h1 h2=>
   have e:hashByValue 7 v=pure true:=by
    cases v with
    | int _ _=>rfl
    | _=>exact absurd h1 (by simp[intKind,Value.isInt])
   rw[e]
   refine xa (xg ?_)
   rw[xf (by decide)]
   exact xg ⟨rfl,rfl,ls',h2⟩
 ·rintro⟨r1,r2⟩ s' ⟨hr,rfl,_⟩
  simp only at hr
  subst hr
  exact xg h
theorem unseen {a:Addr}{ks:List Int}{l:List Value}{Q:Bool->Shared->Prop}(hk:TK prog w s.heap ks a) (hl:∀v∈l,∃b ls,v=.ref b/\TK prog w s.heap ls b) (h:Q false s):
  wpAny (model prog w) A (searchCouldBeSeen (.ref a) l) Q E s:=by
 unfold searchCouldBeSeen
 refine xa (wpAny_forIn_list _ (fun rest r s'=>r.1=none/\s'=s/\∀v∈rest,∃b ls,v=.ref b/\TK prog w s.heap ls b) _ ?_ ?_ _ _ ⟨rfl,rfl,hl⟩)
 ·rintro v rest r s' ⟨hr,rfl,al⟩
  obtain⟨b,ls,rfl,hb⟩:=al v xS
  have rest':∀v∈rest,∃b ls,v=.ref b/\TK prog w s'.heap ls b:=fun u hu=>al u (xW _ hu)
  dsimp only
  split
  ·exact xg ⟨rfl,rfl,rest'⟩
  ·refine xa (wpAny_eqIsQuiet_tuple hk ?_)
   rw[xf (by decide)]
   refine xa (wpAny_eqIsQuiet_tuple hb ?_)
   rw[xf (by decide)]
   refine xa (zJ8 hk ?_)
   rw[xf (by decide)]
   refine xa (zJ8 hb ?_)
   rw[xf (by decide)]
   exact xg ⟨rfl,rfl,rest'⟩
 ·rintro⟨r1,r2⟩ s' ⟨hr,rfl,_⟩
  simp only at hr
  subst hr
  exact xg h
theorem gate {M:Model}{α:Type}{c:Prop}[Decidable c] {m:Sem Bool}{U R:Sem α}{Q:α->Shared->Prop}(hm:∀Q':Bool->Shared->Prop,Q' false s->wpAny M A m Q' E s) (hR:wpAny M A R Q E s):
  wpAny M A (if c then m >>= fun b=>if b=true then U else R else R) Q E s:=by
 by_cases h:c
 ·rw[xc h]
  exact xa (hm _ (by rw[xf (by decide)];exact hR))
 ·rw[xf h];exact hR
noncomputable def adr:Value->Addr
 | .ref a=>a
 | _=>0
noncomputable def kv (κ:Addr->List Int) (e:Int × Value):List Int:=κ (adr e.2)
noncomputable def Els (prog:Program) (w:World) (κ:Addr->List Int) (h:Heap) (es:Array (Int × Value)):Prop:=∀e∈es.toList,∃b,e.2=.ref b/\TK prog w h (κ b) b/\e.1=tupleKeyHash (intKind prog w) (κ b)
theorem search {κ:Addr->List Int}{S x:Addr}{es:Array (Int × Value)}{ep:Nat}{t:SetTable}{b:Bool}{Q:SetFound->Shared->Prop}(hu:A.units<cLine) (ho:s.heap.get? S=some (sObj es ep t)) (T:Tab t es.size b)
  (hk:TK prog w s.heap (κ x) x) (he:Els prog w κ s.heap es) (h1:(∃e∈es.toList,kv κ e=κ x)->Q (.there none) s)
  (h2:∀M,t.slot (adv t M (t.probeStart (tupleKeyHash (intKind prog w) (κ x)))).j=.empty->(∀m',m'<M->∃i,∃hi:i<es.size,t.slot (adv t m' (t.probeStart (tupleKeyHash (intKind prog w) (κ x)))).j=.live i/\(es[i].1≠tupleKeyHash (intKind prog w) (κ x)\/kv κ es[i]≠κ x))->Q (.free (adv t M (t.probeStart (tupleKeyHash (intKind prog w) (κ x)))).j false) s):
  ∀(f m c:Nat) (st:Option SetTable.Probe),m<f->m<10*SetTable.turns t.mask->st.getD (t.probeStart (tupleKeyHash (intKind prog w) (κ x)))=adv t c (t.probeStart (tupleKeyHash (intKind prog w) (κ x)))->
   (∀m',m'<c->∃i,∃hi:i<es.size,t.slot (adv t m' (t.probeStart (tupleKeyHash (intKind prog w) (κ x)))).j=.live i/\(es[i].1≠tupleKeyHash (intKind prog w) (κ x)\/kv κ es[i]≠κ x))->
   Far t (adv t c (t.probeStart (tupleKeyHash (intKind prog w) (κ x)))) m->wpAny (model prog w) A (setSearchFrom S (.ref x) (tupleKeyHash (intKind prog w) (κ x)) true f st) Q E s:=by
 generalize ehx:tupleKeyHash (intKind prog w) (κ x)=hx at h2 ⊢
 have lv:∀{j i:Nat},t.slot j=.live i->i<es.size:=fun {j i} hj=>by
  obtain⟨z,_⟩:=v7.mp (zKh T hj)
  rw[T.size]at z;exact z
 intro f
 induction f with
 | zero=>intro m c st hm;lia
 | succ f ih=>
  intro m c st hm hm2 est seen fr
  unfold setSearchFrom
  refine xa (ue ho rfl (Tab.ft T) ?_)
  dsimp only
  rw[T.way]
  rw[xf (by decide)]
  unfold SetTable.probe
  rw[est]
  have more:∀d,(∀d',d'<d->∃i,t.slot (adv t d' (adv t c (t.probeStart hx))).j=.live i/\(((es[i]?.map (·.1)).getD 0 == hx)=false))->∀m',m'<c+d->∃i,∃hi:i<es.size,t.slot (adv t m' (t.probeStart hx)).j=.live i/\(es[i].1≠hx\/kv κ es[i]≠κ x):=fun d hd m' hm'=>by
   rcases xJ m' c with z|z
   ·exact seen m' z
   ·obtain⟨d',rfl⟩:∃d',m'=c+d':=⟨m' - c,by nofun⟩
    obtain⟨i,e1,e2⟩:=hd d' (by nofun)
    rw[<- zD8]at e1
    have hi:=lv e1
    refine⟨i,hi,e1,.inl fun z=>?_⟩
    rw[va hi]at e2
    have:(es[i].1 == hx)=false:=e2
    rw[z]at this;simp at this
  rcases zHb (hashAt:=_) (h:=hx) T.nod _ m _ hm2 fr with⟨d,_,e,hj,hd⟩|⟨d,i,hlt,e,hj,hd,fr'⟩
  ·rw[e]
   dsimp only
   rw[<- zD8]at hj ⊢
   exact xg (h2 (c+d) hj (more d hd))
  ·rw[e]
   dsimp only
   have hi:i<es.size:=lv hj
   have ei:es[i]?=some es[i]:=va hi
   obtain⟨y,ey,hy,eyh⟩:=he es[i] (by simp)
   have e2:es[i]?=some (es[i].1,.ref y):=by rw[ei,<- ey]
   have ky:kv κ es[i]=κ y:=by unfold kv;rw[ey];rfl
   rw[e2]
   dsimp only
   refine gate (fun Q' hq=>unseen hk (fun v hv=>?_) hq) ?_
   ·obtain⟨e',he',rfl⟩:=xk.mp hv
    obtain⟨b',q1,q2,_⟩:=he e' (by
     have:=Array.mem_filter.mp (Array.mem_toList_iff.mp he')
     exact Array.mem_toList_iff.mpr this.1)
    exact⟨b',_,q1,q2⟩
   refine xa (xF (wpAny_eqBool_tuple hu hy hk ?_))
   refine xa (ue ho rfl (Tab.ft T) ?_)
   dsimp only
   by_cases cc:κ y=κ x
   ·rw[xw cc]
    exact xg (h1 ⟨es[i],by simp,ky.trans cc⟩)
   ·rw[xA cc]
    rw[xf (by decide)]
    have em:t.sameMemory t.moves t.mask=some true:=by unfold SetTable.sameMemory;simp
    rw[em]
    dsimp only
    rw[xc rfl,hj]
    dsimp only
    rw[e2]
    dsimp only
    refine xa (wpAny_isSame_ref_self ?_)
    rw[xc rfl]
    refine xa (xg ?_)
    dsimp only
    rw[xf (by decide)]
    refine ih (m-(d+1)) (c+(d+1)) _ (by nofun) (by nofun) (zD8 t c (d+1) _).symm ?_ (by rw[zD8];exact fr')
    intro m' hm'
    rcases xJ m' (c+d)with z|z
    ·exact more d hd m' z
    ·have:m'=c+d:=by nofun
     subst this
     rw[<- zD8]at hj
     exact⟨i,hi,hj,.inr (by rw[ky];exact cc)⟩
noncomputable def IsS (prog:Program) (w:World) (κ:Addr->List Int) (h:Heap) (S:Addr) (es:Array (Int × Value)) (b:Bool):Prop:=∃ep t,h.get? S=some (sObj es ep t)/\Tab t es.size b/\Els prog w κ h es/\Chs t (es.toList.map (·.1))/\(es.toList.map (kv κ)).Nodup
theorem Els.keeps {κ:Addr->List Int}{h h':Heap}{S:Addr}{es es':Array (Int × Value)}{ep:Nat}{t:SetTable}(he:Els prog w κ h es) (ho:h.get? S=some (sObj es' ep t)) (hs:Heap.SameBut S h h'):Els prog w κ h' es:=fun e hm=>by
 obtain⟨b,e1,⟨o,items,n,h1,h2,h3,h4⟩,e2⟩:=he e hm
 refine⟨b,e1,⟨o,items,n,(hs.2 b fun z=>?_).trans h1,h2,h3,h4⟩,e2⟩
 subst z
 rw[ho]at h1
 cases h1
 cases h3
theorem zPx {κ:Addr->List Int}{x:Addr}{es:Array (Int × Value)}{t:SetTable}{b:Bool}{h:Heap}{M:Nat}(T:Tab t es.size b) (he:Els prog w κ h es) (C:Chs t (es.toList.map (·.1))) (hM:t.slot (adv t M (t.probeStart (tupleKeyHash (intKind prog w) (κ x)))).j=.empty)
  (seen:∀m',m'<M->∃i,∃hi:i<es.size,t.slot (adv t m' (t.probeStart (tupleKeyHash (intKind prog w) (κ x)))).j=.live i/\(es[i].1≠tupleKeyHash (intKind prog w) (κ x)\/kv κ es[i]≠κ x)):κ x ∉ es.toList.map (kv κ):=by
 intro hm
 obtain⟨e,hem,ek⟩:=xk.mp hm
 obtain⟨i,hi,rfl⟩:=vw.mp hem
 have hi':i<es.size:=by simpa using hi
 obtain⟨y,ey,_,eh⟩:=he _ hem
 have ky:κ y=κ x:=by
  have:kv κ es.toList[i]=κ y:=by unfold kv;rw[ey];rfl
  rw[<- this,ek]
 rw[ky]at eh
 have hp:i<t.place.size:=by rw[T.size];exact hi'
 obtain⟨m,em,al⟩:=C (t.place[i],es.toList[i].1) (vw.mpr ⟨i,by have:i<min t.place.size es.size:=Nat.lt_min.mpr ⟨hp,hi'⟩;simpa using this,by simp⟩)
 dsimp only at em al
 rw[eh]at em al
 rcases Nat.lt_trichotomy m M with z|z|z
 ·obtain⟨i',hi2,q1,q2⟩:=seen m z
  rw[em]at q1
  have q3:=zKh T q1
  obtain⟨z3,e3⟩:=v7.mp q3
  have:i'=i:=zXc T.up (by simpa using z3) (by simpa using hp) (by simpa using e3)
  subst this
  rcases q2 with q2|q2
  ·exact q2 (by simpa using eh)
  ·exact q2 (by simpa using ek)
 ·subst z
  rw[em]at hM
  exact(zJa T _).mp hM (by simp)
 ·exact(zJa T _).mp hM (al M z)
theorem zQo {κ:Addr->List Int}{S x:Addr}{es:Array (Int × Value)}{b:Bool}{Q:Bool->Shared->Prop}(hu:A.units<cLine) (hS:IsS prog w κ s.heap S es b) (hk:TK prog w s.heap (κ x) x) (hn:es.size<300)
  (h1:(∃e∈es.toList,kv κ e=κ x)->Q false s) (h2:∀h' es',Heap.SameBut S s.heap h'->IsS prog w κ h' S es' b->es'.toList.Perm ((tupleKeyHash (intKind prog w) (κ x),.ref x)::es.toList)->Q true { s with heap:=h' }):
  ∀f,wpAny (model prog w) A (setAddHashedIn S (.ref x) (tupleKeyHash (intKind prog w) (κ x)) (f+1)) Q E s:=by
 intro f
 obtain⟨ep,t,ho,T,he,C,nd⟩:=hS
 unfold setAddHashedIn
 refine xa (ue ho rfl (Tab.ft T) ?_)
 dsimp only
 have eb:byScan (.ref x) es=false:=by unfold byScan;rfl
 rw[eb]
 rw[xf (by decide)]
 obtain⟨m,hm,fr⟩:=T.start (tupleKeyHash (intKind prog w) (κ x))
 refine xa (search hu ho T hk he (fun q=>?_) (fun M hM seen=>?_) 100000 m 0 none (xZ hm T.turns) hm rfl (fun m' h=>by nofun) fr)
 ·exact xg (h1 q)
 ·have fk:=zPx T he C hM seen
  have alM:∀m',m'<M->(adv t m' (t.probeStart (tupleKeyHash (intKind prog w) (κ x)))).j∈t.place.toList:=fun m' h=>by
   obtain⟨i,_,q,_⟩:=seen m' h
   exact zW0 T q
  obtain⟨C1,ep2⟩:=zUw T (hs:=es.toList.map (·.1)) (by simp) C hM rfl alM
  have TP:=T.put hM
  generalize (adv t M (t.probeStart (tupleKeyHash (intKind prog w) (κ x)))).j=j at TP C1 ep2 ⊢
  dsimp only
  refine xa (ue ho rfl (Tab.ft T) ?_)
  dsimp only
  generalize ePT:t.put j=PT at TP C1 ep2
  obtain⟨t1,p⟩:=PT
  dsimp only at TP C1 ep2 ⊢
  rw[TP.plain]
  rw[xc rfl]
  refine xa (zSx hk ?_)
  rw[xc rfl]
  generalize ehx:tupleKeyHash (intKind prog w) (κ x)=hx at C1 h2 ⊢
  have pm:=zIc es p (hx,Value.ref x)
  have sz:=zLx es p (hx,Value.ref x)
  have C2:Chs t1 ((SetTable.insertAt es p (hx,Value.ref x)).toList.map (·.1)):=by
   rw[zG1,vR,xt,List.map_take,List.map_drop]
   exact C1
  generalize SetTable.insertAt es p (hx,Value.ref x)=es1 at pm sz C2 ⊢
  have nd1:(es1.toList.map (kv κ)).Nodup:=by
   refine(pm.map (kv κ)).nodup_iff.mpr ?_
   rw[xt]
   exact vX.mpr ⟨fk,nd⟩
  refine xa (wpAny_storeSet_of ho rfl ?_ (by rw[sz,vW];lia))
  have hg:(s.heap.update S (Obj.putSet es1 t1)).get? S=some (sObj es1 (ep+1) t1):=vJ (Obj.putSet es1 t1) ho rfl
  have sb:=uC s.heap S (Obj.putSet es1 t1)
  have he1:Els prog w κ (s.heap.update S (Obj.putSet es1 t1)) es1:=fun e hm=>by
   rcases xm.mp (pm.mem_iff.mp hm)with rfl|hm
   ·exact Els.keeps (es:=#[(hx,Value.ref x)]) (fun e hm=>by
     have:e=(hx,Value.ref x):=by simpa using hm
     subst this;exact⟨x,rfl,hk,ehx.symm⟩) ho sb _ (by simp)
   ·exact Els.keeps he ho sb e hm
  rw[<- sz]at TP
  by_cases c:t1.tooFull=true
  ·rw[xc (by rw[c];rfl)]
   unfold setRelay
   refine xa (xa (ue (s:={ s with heap:=s.heap.update S (Obj.putSet es1 t1) }) hg rfl (TabP.ft TP) ?_))
   dsimp only
   obtain⟨hl,t2,order,er,T2,po,C3⟩:=zO9 TP c (by nofun) (es1.map (·.1)) (by simp)
   rw[<- sz]
   rw[xf (by simpa using hl)]
   rw[er]
   have pe:(order.filterMap (es1[·]?)).toList.Perm es1.toList:=by
    rw[Array.toList_filterMap]
    refine(po.filterMap _).trans ?_
    have:=filterMap_getElem?_range es1
    rw[this]
   have zz:(order.filterMap (es1[·]?)).size=es1.size:=by rw[<- uG,pe.length_eq,uG]
   have C4:Chs t2 ((order.filterMap (es1[·]?)).toList.map (·.1)):=by
    have e5:(order.filterMap (es1[·]?)).toList.map (·.1)=order.toList.map fun k=>(es1.map (·.1)).toList.getD k 0:=by
     rw[Array.toList_filterMap]
     have al:∀k∈order.toList,k<es1.size:=fun k hk=>xC.mp (po.mem_iff.mp hk)
     clear C3 po er pe zz
     generalize order.toList=l at al
     induction l with
     | nil=>rfl
     | cons k l ih=>
      have hk:=al k (.head _)
      rw[um,va hk]
      simp only[xt]
      rw[ih fun k hk=>al k (.tail _ hk)]
      congr 1
      simp[hk]
    rw[e5];exact C3
   refine xa ?_
   show wpAny _ _ (if((order.filterMap (es1[·]?)).size != es1.size)=true then _ else pure (order.filterMap (es1[·]?),t2)) _ _ _
   rw[xf (by simp[zz])]
   refine xg ?_
   dsimp only
   generalize order.filterMap (es1[·]?)=es2 at pe zz C4 ⊢
   refine wpAny_storeSet_of hg rfl ?_ (by rw[zz,sz,vW];lia)
   have hg2:((s.heap.update S (Obj.putSet es1 t1)).update S (Obj.putSet es2 t2)).get? S=some (sObj es2 (ep+1+1) t2):=vJ (Obj.putSet es2 t2) hg rfl
   have sb2:=uC (s.heap.update S (Obj.putSet es1 t1)) S (Obj.putSet es2 t2)
   refine xg (h2 _ es2 (sb.trans sb2) ⟨_,_,hg2,by rw[zz];exact T2,?_,C4,(pe.map (kv κ)).nodup_iff.mpr nd1⟩ (pe.trans pm))
   exact Els.keeps (fun e hm=>he1 e (pe.mem_iff.mp hm)) hg sb2
  ·rw[xf (by simpa using c)]
   exact xg (h2 _ es1 sb ⟨_,_,hg,TP.tab (by simpa using c),he1,C2,nd1⟩ pm)
theorem add {κ:Addr->List Int}{S x:Addr}{es:Array (Int × Value)}{b:Bool}{Q:Bool->Shared->Prop}(hu:A.units<cLine) (hS:IsS prog w κ s.heap S es b) (hk:TK prog w s.heap (κ x) x) (hn:es.size<300)
  (h1:∀tk,s.toks<=tk->(∃e∈es.toList,kv κ e=κ x)->Q false { s with toks:=tk }) (h2:∀h' es' tk hx,s.toks<=tk->Heap.SameBut S s.heap h'->IsS prog w κ h' S es' b->es'.toList.Perm ((hx,.ref x)::es.toList)->Q true { s with heap:=h',toks:=tk }):wpAny (model prog w) A (setAdd S (.ref x)) Q E s:=by
 unfold setAdd
 refine xF (xa (wpAny_pyHash_tuple hu hk ?_))
 unfold setAddHashed
 refine xF ?_
 exact zQo (s:={ s with toks:=s.toks+((κ x).length+1) }) hu hS hk hn (fun q=>h1 _ (uD _ _) q) (fun h' es' sb i p=>h2 h' es' _ _ (uD _ _) sb i p) 99999
end
end TS
namespace TS
open PySem TB
section
variable {prog:Program}{w:World}{A:Around}{R:Result->Shared->Prop}{I:Addr}{fp wr:List Addr}{G:Array GenState->Array GenState->Prop}{n:Nat}{P:Nat->Value->Prop}{St:Nat->Shared->Prop}
noncomputable def Met (n:Nat) (P:Nat->Value->Prop) (es:Array (Int × Value)):Prop:=∀e∈es.toList,∃j,j<n/\P j e.2
theorem IsS.moved {κ:Addr->List Int}{h h':Heap}{S:Addr}{es:Array (Int × Value)}{b:Bool}{bad:List Addr}(i:IsS prog w κ h S es b) (hS:S ∉ bad) (k:∀c o,c ∉ bad->h.get? c=some o->h'.get? c=some o) (hb:∀c∈bad,∀o,h.get? c=some o->o.cls≠.type "tuple"):IsS prog w κ h' S es b:=by
 obtain⟨ep,t,ho,T,he,C,nd⟩:=i
 refine⟨ep,t,k _ _ hS ho,T,fun e hm=>?_,C,nd⟩
 obtain⟨c,e1,⟨o,items,m,h1,h2,h3,h4⟩,e2⟩:=he e hm
 exact⟨c,e1,⟨o,items,m,k _ _ (fun z=>hb c z o h1 h2) h1,h2,h3,h4⟩,e2⟩
noncomputable def Cov (κ:Addr->List Int) (n:Nat) (P:Nat->Value->Prop) (es:Array (Int × Value)):Prop:=∀j v,j<n->P j v->∃e∈es.toList,kv κ e=κ (adr v)
theorem loop {κ:Addr->List Int}(W:WalksS prog w A.in1 I fp wr G n P St) (S:Addr) (hSf:S ∉ fp) (hu:A.in1.units<cLine) (h0:Heap) (hP:∀i v,P i v->∃a,v=.ref a/\a ∉ wr/\a≠S/\TK prog w h0 (κ a) a) (hPf:∀i v v',P i v->P i v'->v=v') (hn:n<=299) {led:Bool}
  (hwr:∀i s,St i s->∀c∈wr,∀o,s.heap.get? c=some o->o.cls≠.type "tuple"):
  ∀(k i:Nat) (s:Shared) (es:Array (Int × Value)),n-i=k->i<=n->St i s->IsS prog w κ s.heap S es led->es.size<=i->Met n P es->Cov κ i P es->(∀c o,c ∉ S::wr->h0.get? c=some o->s.heap.get? c=some o)->
   (∀s' es',Moved (S::wr) G s s'->IsS prog w κ s'.heap S es' led->es'.size<=n->Met n P es'->Cov κ n P es'->R (.ok (.ret .none)) s')->
   codeAny (model prog w) A (.builtin "set.update.loop" ⟨[.ref S,.ref I],[]⟩) R s:=by
 have hSw:S ∉ wr:=fun h=>hSf (W.sub _ h)
 have sub:∀b∈wr,b∈S::wr:=fun b hb=>.tail _ hb
 intro k
 induction k with
 | zero=>
  intro i s es hk hi hst hS hz hM hC hkp hR
  obtain rfl:i=n:=by nofun
  refine uR PyProof.Rows.F.entry_set_update_loop ?_
  rw[yg yv _]
  show wpAny _ A.in1 (pyNext (.ref I) >>= _) _ _ s
  refine xa (W.done s _ _ hst fun s' hm=>?_)
  show wpAny _ A.in1 (ret Value.none) _ _ s'
  exact xg (hR s' es (hm.mono sub) (IsS.moved hS hSw hm.heap (hwr _ _ hst)) hz hM hC)
 | succ k ih=>
  intro i s es hk hi hst hS hz hM hC hkp hR
  have hlt:i<n:=by nofun
  refine uR PyProof.Rows.F.entry_set_update_loop ?_
  rw[yg yv _]
  show wpAny _ A.in1 (pyNext (.ref I) >>= _) _ _ s
  refine xa (W.item i s _ _ hlt hst fun v s' hp hst' hm=>?_)
  obtain⟨a,rfl,ha,haS,o,items,m,q1,q2,q3,q4⟩:=hP i v hp
  have hk':TK prog w s'.heap (κ a) a:=⟨o,items,m,hm.heap a o ha (hkp a o (fun z=>by rcases xm.mp z with z|z;exact haS z;exact ha z) q1),q2,q3,q4⟩
  have hS':=IsS.moved hS hSw hm.heap (hwr _ _ hst)
  show wpAny _ A.in1 (holding [Value.ref a] (setAdd S (.ref a)) >>= _) _ _ s'
  refine xa (xF (add hu hS' hk' (by nofun) (fun tk htk there=>?_) (fun h' es' tk hx htk sb i' pm=>?_)))
  ·refine xg ⟨uP yv _,ih (i+1) { s' with toks:=tk } es (by nofun) hlt (W.frame _ s' s'.heap tk hst' htk fun _ _ _ e=>e) hS' (by nofun) hM (fun j v' hj hv'=>?_) (fun c o hc e=>hm.heap c o (fun z=>hc (sub c z)) (hkp c o hc e)) fun s2 es2 m2 i2 z2 w2 c2=>?_⟩
   ·rcases xJ j i with z|z
    ·exact hC j v' z hv'
    ·have:j=i:=by nofun
     subst this
     rw[hPf _ _ _ hv' hp]
     exact there
   ·exact hR s2 es2 (Moved.trans W.gtrans ((hm.mono sub).then_heap (h':=s'.heap) htk fun _ _ _ e=>e) m2) i2 z2 w2 c2
  ·have hsz:es'.size=es.size+1:=by have:=pm.length_eq;simpa using this
   refine xg ⟨uP yv _,ih (i+1) { s' with heap:=h',toks:=tk } es' (by nofun) hlt (W.frame _ s' h' tk hst' htk fun c hc o e=>?_) i' (by nofun) (fun e he=>?_) (fun j v' hj hv'=>?_) (fun c o hc e=>?_) fun s2 es2 m2 i2 z2 w2 c2=>?_⟩
   ·rw[sb.2 c fun z=>hSf (z ▸ hc)];exact e
   ·rcases xm.mp (pm.mem_iff.mp he)with rfl|he
    ·exact⟨i,hlt,hp⟩
    ·exact hM e he
   ·rcases xJ j i with z|z
    ·obtain⟨e,he,ek⟩:=hC j v' z hv'
     exact⟨e,pm.mem_iff.mpr (xW _ he),ek⟩
    ·have:j=i:=by nofun
     subst this
     rw[hPf _ _ _ hv' hp]
     exact⟨(hx,.ref a),pm.mem_iff.mpr xS,rfl⟩
   ·rw[sb.2 c fun z=>hc (z ▸ xS)]
    exact hm.heap c o (fun z=>hc (sub c z)) (hkp c o hc e)
   ·refine hR s2 es2 (Moved.trans W.gtrans ((hm.mono sub).then_heap (h':=h') htk fun c o hc e=>?_) m2) i2 z2 w2 c2
    rw[sb.2 c fun z=>hc (z ▸ xS)];exact e
end
noncomputable abbrev zKi (w:World):Bool:=!(w.params.followText "set-order")
section
variable {prog:Program}{w:World}{A:Around}{E:Value->Shared->Prop}{s:Shared}
noncomputable abbrev nObj (w:World):Obj:=sObj #[] 0 (.fresh 0 0 (zKi w))
theorem zR0 (a:Value) {Q₁:Value->Shared->Prop}(h:Q₁ (.ref s.heap.objs.size) { s with heap:=s.heap.push (nObj w) }):
  codeAny (model prog w) A (.call (.builtin "set.__new__") ⟨[.type "set",a],[]⟩) (wants Q₁ E) s:=by
 refine codeAny_of_tree (show wpAny _ A.in1 (checkBuiltinCall "set.__new__" ⟨[.type "set",a],[]⟩ >>= fun _=>again (.builtin "set.__new__" ⟨[.type "set",a],[]⟩)) _ _ s from ?_)
 refine xa (wpAny_of_eq (F.newCall_set_1 a) (xg ⟨uP F.plain_set_new _,uR F.entry_set_new ?_⟩));rw[yg F.plain_set_new _]
 unfold Builtin.«set.__new__» Builtin.Frozenset.newClass;have hsub:=sub_set_self;obtain⟨hp,g,d,tk,os⟩:=s;dsimp only;wp_walk
 refine yh (xg ?_);dsimp only;simp only[newObj]
 exact xa (wpAny_alloc (xg (xg h)))
end
end TS
namespace TS
open PySem TB
theorem si_next:Slot "set_iterator" "__next__" "set_iterator.__next__":=
 .of (owner:="set_iterator") (n:="__next__") (by rw[uN,uO];kernel_rfl) (by decide +kernel) (by decide +kernel) (by decide +kernel) (by first|exact .inl (by decide +kernel)|exact .inr (by decide +kernel)) (by rw[isSubtype_type];kernel_rfl)
theorem zL9:entryFor table "set_iterator.__next__"=some Builtin.«set_iterator.__next__»:=entryFor_of_tree (by kernel_rfl)
theorem zO2 (a:Value):argsOk "set_iterator.__next__" ⟨[a],[]⟩:=by unfold argsOk;kernel_rfl
theorem zO0:Slot "set_iterator" "__iter__" "set_iterator.__iter__":=
 .of (owner:="set_iterator") (n:="__iter__") (by rw[uN,uO];kernel_rfl) (by decide +kernel) (by decide +kernel) (by decide +kernel) (by first|exact .inl (by decide +kernel)|exact .inr (by decide +kernel)) (by rw[isSubtype_type];kernel_rfl)
theorem zO1:entryFor table "set_iterator.__iter__"=some Builtin.«dict_keyiterator.__iter__»:=entryFor_alias (id':="dict_keyiterator.__iter__") (by kernel_rfl) rfl (by decide +kernel) (by kernel_rfl)
theorem zQz (a:Value):argsOk "set_iterator.__iter__" ⟨[a],[]⟩:=by unfold argsOk;kernel_rfl
theorem yAa:entryFor table "set.__iter__"=some Builtin.«frozenset.__iter__»:=entryFor_alias (id':="frozenset.__iter__") (by kernel_rfl) rfl (by decide +kernel) (by kernel_rfl)
theorem zHg {α:Type}:∀(l:List α) (i:Nat) (h:i<l.length),(l[i]::l.eraseIdx i).Perm l
 | [],i,h=>by simp at h
 | x::l,0,h=>by simp
 | x::l,i+1,h=>by
  simp only[List.getElem_cons_succ,List.eraseIdx_cons_succ]
  exact(List.Perm.swap _ _ _).trans (List.Perm.cons x (zHg l i (by simpa using h)))
theorem zOo {α:Type}(next:Nat->Nat):∀(f k:Nat) (left:List α) (out:Array α),left.length=f->∃l,(pickOrder.go next f k left out).toList=out.toList++l/\l.Perm left
 | 0,k,left,out,h=>⟨[],by simp[pickOrder.go],by rw[List.length_eq_zero_iff.mp h]⟩
 | f+1,k,left,out,h=>by
  have hl:next k % left.length<left.length:=vP _ (by nofun)
  unfold pickOrder.go
  rw[xp hl]
  dsimp only
  obtain⟨l,e,p⟩:=zOo next f (k+1) (left.eraseIdx (next k % left.length)) (out.push left[next k % left.length]) (by rw[List.length_eraseIdx];simp[hl];lia)
  refine⟨left[next k % left.length]::l,by rw[e];simp,(List.Perm.cons _ p).trans ?_⟩
  exact zHg left _ hl
theorem zOn {α:Type}(next:Nat->Nat) (xs:Array α):(pickOrder next xs).toList.Perm xs.toList:=by
 obtain⟨l,e,p⟩:=zOo next xs.size 0 xs.toList #[] (by simp)
 unfold pickOrder
 rw[e]
 simpa using p
noncomputable def ordW (w:World) (S:Addr) (ep:Nat) (es:Array (Int × Value)):Array (Int × Value):=if w.params.followText "set-order"=true then pickOrder (w.params.setOrder S ep) es else es
theorem zGa (w:World) (S:Addr) (ep:Nat) (es:Array (Int × Value)):(ordW w S ep es).toList.Perm es.toList:=by
 unfold ordW
 split
 ·exact zOn _ _
 ·exact .refl _
theorem zEt (w:World) (S:Addr) (ep:Nat) (es:Array (Int × Value)):(ordW w S ep es).size=es.size:=by simpa using(zGa w S ep es).length_eq
noncomputable def zG8 (w:World) (t:SetTable) (i:Nat):Nat:=if w.params.followText "set-order"=true then 0 else TB.slotAt t.place i
section
variable {prog:Program}{w:World}{A:Around}{E:Value->Shared->Prop}{s:Shared}
noncomputable def IsSI (w:World) (h:Heap) (I S:Addr) (i n ep:Nat) (t:SetTable):Prop:=∃o,h.get? I=some o/\o.cls=.type "set_iterator"/\o.data=.fields #[.int (zG8 w t i) 0,.int i 0,.ref S,.int n 0,.int ep 0]
theorem IsSI.typeIs {I S:Addr}{i n ep:Nat}{t:SetTable}(x:IsSI w s.heap I S i n ep t):s.TypeIs (.ref I) "set_iterator":=let ⟨o,ho,hc,_⟩:=x;⟨o,ho,hc⟩
theorem walk_of {S:Addr}{es:Array (Int × Value)}{ep:Nat}{t:SetTable}(ho:s.heap.get? S=some (sObj es ep t)) (T:Tab t es.size (!(w.params.followText "set-order"))) (i:Nat) (hi:i<=es.size) {Q:Option (Value × Nat)->Shared->Prop}
  (h:Q (((ordW w S ep es)[i]?).map fun e=>(e.2,zG8 w t (i+1))) s):wpAny (model prog w) A (setNext S (zG8 w t i) i ep) Q E s:=by
 unfold setNext
 refine xa (ue ho rfl (Tab.ft T) ?_)
 dsimp only
 unfold setsByText
 refine xa (xa (yh (xg ?_)))
 show wpAny _ _ (if(w.params.followText "set-order")=true then _ else _) _ _ _
 by_cases c:w.params.followText "set-order"=true
 ·rw[xc c]
  rw[xf (by simp)]
  refine xa ?_
  unfold setWalk
  refine xa (ue ho rfl (Tab.ft T) ?_)
  dsimp only
  unfold setsByText
  refine xa (xa (yh (xg ?_)))
  show wpAny _ _ (if(w.params.followText "set-order")=true then _ else _) _ _ _
  rw[xc c]
  refine xa (yh (xg (xg ?_)))
  unfold ordW zG8 at h
  rw[xc c,xc c]at h
  unfold zG8
  rw[xc c]
  exact h
 ·rw[xf c]
  have hl:t.led=true:=by rw[T.led];simpa using c
  have e1:(!t.plain && decide (es.size > 1))=false:=by rw[T.plain];rfl
  show wpAny _ _ (if(!t.plain && decide (es.size > 1))=true then _ else _) _ _ _
  rw[e1]
  rw[xf (by decide)]
  show wpAny _ _ ((if(!t.led && !es.isEmpty)=true then _ else pure ()) >>= _) _ _ _
  rw[hl]
  rw[xf (by simp)]
  refine xa (xg ?_)
  unfold ordW zG8 at h
  rw[xf c,xf c]at h
  unfold zG8
  rw[xf c,zJp T.up (by rw[T.size];exact hi)]
  refine xg ?_
  rcases xJ i es.size with z|z
  ·have z2:i<t.place.size:=by rw[T.size];exact z
   rw[va z,va z2]
   rw[va z]at h
   have:TB.slotAt t.place (i+1)=t.place[i]+1:=by unfold TB.slotAt;simp[Array.getD,z2]
   rw[this]at h
   exact h
  ·rw[yi z]
   rw[yi z]at h
   exact h
theorem zUk {I S:Addr}{i ep:Nat}{es:Array (Int × Value)}{t:SetTable}{e:Int × Value}{Q:Option Value->Shared->Prop}(hit:IsSI w s.heap I S i es.size ep t) (ho:s.heap.get? S=some (sObj es ep t)) (T:Tab t es.size (!(w.params.followText "set-order"))) (hne:S≠I)
  (hx:(ordW w S ep es)[i]?=some e) (hQ:∀h',IsSI w h' I S (i+1) es.size ep t->Heap.SameBut I s.heap h'->Q (some e.2) { s with heap:=h' }):wpAny (model prog w) A (pyNext (.ref I)) Q E s:=by
 have hlt:i<es.size:=by rw[<- zEt w S ep es];exact(v7.mp hx).1
 obtain⟨o,hi,hc,hd⟩:=id hit
 unfold pyNext
 refine xa (uS (vF (name:=Str.ofString "__next__") hit.typeIs si_next (vk si_next hit.typeIs zL9 ?_ (zO2 _))))
 unfold Builtin.«set_iterator.__next__»
 refine xa (xg ?_)
 refine xa (wpAny_fieldsOf hi hd ?_)
 dsimp only
 refine xa (wpAny_setEntries_of ho rfl (Tab.ft T) ?_)
 rw[xf (by simp)]
 simp only[uT]
 refine xa (walk_of ho T i (vb hlt) ?_)
 rw[hx]
 simp only[vz]
 refine xa (wpAny_setField hi hd (by simp) ?_)
 have g1:=vJ (Obj.mapFields fun x=>x.setIfInBounds 0 (rawInt ↑(zG8 w t (i+1)))) hi (Obj.isFreed_of_fields (uU hd _))
 have d1:=uU hd fun x=>x.setIfInBounds 0 (rawInt ↑(zG8 w t (i+1)))
 refine xa (wpAny_setField g1 d1 (by simp) (xg ⟨e.2,rfl,xg (hQ _ ⟨_,vJ _ g1 (Obj.isFreed_of_fields (uU d1 _)),(Obj.cls_mapFields ..).trans ((Obj.cls_mapFields ..).trans hc),?_⟩ ((uC ..).trans (uC ..)))⟩))
 rw[uU d1]
 simp[rawInt]
theorem zUl {I S:Addr}{ep:Nat}{es:Array (Int × Value)}{t:SetTable}{Q:Option Value->Shared->Prop}(hh:A.handled=none) (hit:IsSI w s.heap I S es.size es.size ep t) (ho:s.heap.get? S=some (sObj es ep t)) (T:Tab t es.size (!(w.params.followText "set-order"))) (hne:S≠I)
  (hQ:∀h',Heap.ExtBut I s.heap h'->Q none { s with heap:=h' }):wpAny (model prog w) A (pyNext (.ref I)) Q E s:=by
 obtain⟨o,hi,hc,hd⟩:=id hit
 unfold pyNext
 refine xa (uS (vF (name:=Str.ofString "__next__") hit.typeIs si_next (vk si_next hit.typeIs zL9 ?_ (zO2 _))))
 unfold Builtin.«set_iterator.__next__»
 refine xa (xg ?_)
 refine xa (wpAny_fieldsOf hi hd ?_)
 dsimp only
 refine xa (wpAny_setEntries_of ho rfl (Tab.ft T) ?_)
 rw[xf (by simp)]
 simp only[uT]
 refine xa (walk_of ho T es.size (xh _) ?_)
 rw[yi (by rw[zEt];exact xh _)]
 simp only[Option.map_none]
 refine xa (wpAny_setField hi hd (by simp) ?_)
 refine xa ?_
 simp only[newExc,newTuple]
 refine xa (vd (xa (m:=firstArgMember _ _) (wpAny_of_eq (a:=Value.none) (by first|rfl|(simp only[firstArgMember];rfl)) (vd ?_ (by size_fits)))) (by size_fits))
 simp only[raiseNew]
 refine xa (wpAny_handled ?_);rw[show A.in1.handled=none from hh]
 refine xa (xg (wpAny_throw ?_))
 refine xa (yc (b:=true) (T:="StopIteration") ⟨_,xu _ rfl,rfl⟩ isSubtype_stop (xg (hQ _ (((uC ..).extBut.push _).push _))))
theorem zNm (hh:A.handled=none) (I S:Addr) (hne:S≠I) (es:Array (Int × Value)) (ep:Nat) (t:SetTable) (T:Tab t es.size (!(w.params.followText "set-order"))):
  Walks prog w A I [I,S] [I] es.size (fun i v=>((ordW w S ep es).map (·.2))[i]?=some v) (fun i h=>IsSI w h I S i es.size ep t/\h.get? S=some (sObj es ep t)) where
 sub:=fun b hb=>by simp at hb;simp[hb]
 frame:=fun _ _ _ st hk=>⟨let ⟨o,ho,r⟩:=st.1;⟨o,hk I (by simp) o ho,r⟩,hk S (by simp) _ st.2⟩
 item:=fun i s Q E hi st hQ=>by
  have hz:i<(ordW w S ep es).size:=by rw[zEt];exact hi
  refine zUk st.1 st.2 T hne (va hz) fun h' it' sb=>?_
  exact hQ _ h' s.toks (by rw[Array.getElem?_map,va hz];rfl) ⟨it',(sb.2 S hne).trans st.2⟩ fun b o hb e=>(sb.2 b fun z=>hb (by simp[z])).trans e
 done:=fun s Q E st hQ=>zUl hh st.1 st.2 T hne fun h' he'=>hQ h' s.toks fun b o hb e=>he' b o (fun h=>hb (by simp[h])) e
 self:=fun i s Q E st hQ=>wpAny_pyIter_slot st.1.typeIs zO0 (vk zO0 st.1.typeIs zO1 (show wpAny _ _ (ret (.ref I)) _ _ s from xg ⟨_,rfl,"set_iterator",_,st.1.typeIs,si_next.lookup,hQ⟩) (zQz _))
theorem zS8 {S:Addr}{es:Array (Int × Value)}{ep:Nat}{t:SetTable}{Q:Value->Shared->Prop}(ho:s.heap.get? S=some (sObj es ep t)) (T:Tab t es.size (!(w.params.followText "set-order")))
  (h:Q (.ref s.heap.objs.size) { s with heap:=s.heap.push { cls:=.type "set_iterator",data:=.fields #[.int 0 0,.int 0 0,.ref S,.int es.size 0,.int ep 0] } }):wpAny (model prog w) A (pyIter (.ref S)) Q E s:=by
 have hT:s.TypeIs (.ref S) "set":=⟨_,ho,rfl⟩
 refine wpAny_pyIter_slot hT F.slot_set_iter (vk F.slot_set_iter hT yAa ?_ (F.args_set_iter_1 _))
 unfold Builtin.«frozenset.__iter__»
 refine xa (m:=Builtin.Frozenset.slot0 _ _) (xg ?_)
 unfold Builtin.Frozenset.sizeOf
 refine xa (xa (wpAny_setEntries_of ho rfl (Tab.ft T) (xg ?_)))
 unfold setDrawn
 refine xa (xa (ue ho rfl (Tab.ft T) ?_))
 dsimp only
 unfold setsByText
 refine xa (xa (yh (xg (xg ?_))))
 show wpAny _ _ (if(!(w.params.followText "set-order") && (!t.plain && decide (es.size > 1)))=true then _ else _) _ _ _
 rw[xf (by rw[T.plain];simp)]
 refine xa (xg ?_)
 refine xa (wpAny_setEpoch_of ho rfl (Tab.ft T) ?_)
 unfold newFields
 refine xa (vd (xg ⟨_,rfl,"set_iterator",_,⟨_,xu _ rfl,rfl⟩,si_next.lookup,?_⟩))
 simpa[rawInt]using h
theorem zSe {S:Addr}{Q:Bool->Shared->Prop}(hT:s.TypeIs (.ref S) "set") (h:Q false s):wpAny (model prog w) A (Builtin.List.listLengthHint (.ref S)) Q E s:=by
 unfold Builtin.List.listLengthHint
 refine xa (uy hT F.slot_set_len.lookup ?_)
 generalize hid:("set.__len__":String)=id0;wp_delta;rw[show splitId id0=some ("set","__len__")from by subst hid;decide +kernel];subst hid
 refine xa (yc (T:="set") (b:=true) hT sub_set_self (wpAny_ite_split (fun hab=>absurd hab (by decide)) fun _=>wpAny_ite_split (fun _=>xa (uc hT (xg h))) fun hab=>absurd (by decide +kernel) hab))
open PySem.W in
theorem zUe {S:Addr}{es:Array (Int × Value)}{ep:Nat}{t:SetTable}(T:Tab t es.size (!(w.params.followText "set-order"))):
  KdlSrc prog w "set" S S es.size (fun i v=>((ordW w S ep es).map (·.2))[i]?=some v) (fun h=>h.get? S=some (sObj es ep t)) where
 type:=fun s ok=>⟨_,ok,rfl⟩
 there:=fun h ok=>⟨xl ok,xl ok⟩
 keep:=fun h h' ok k=>k S (.inl rfl) _ ok
 notList:=by decide
 notTuple:=by decide
 hint:=fun A E s Q ok h=>zSe ⟨_,ok,rfl⟩ h
 iter:=fun A s hh ok=>⟨{ cls:=.type "set_iterator",data:=.fields #[.int 0 0,.int 0 0,.ref S,.int es.size 0,.int ep 0] },_,fun E Q h=>zS8 ok T h,
  zNm hh _ S (xq (xl ok)) es ep t T,⟨_,xu _ rfl,rfl,by
   have:zG8 w t 0=0:=by unfold zG8;split <;> rfl
   rw[this];rfl⟩,xj _ ok⟩
end
end TS
namespace TS
open PySem TB SR PyProof.Rows PySem.W
noncomputable def PL (a b:Int × Int):Prop:=a.1<b.1\/(a.1=b.1/\a.2<=b.2)
noncomputable def plt (a b:Int × Int):Bool:=decide (a.1<b.1\/(a.1=b.1/\a.2<b.2))
theorem zOl {a b:Int × Int}(h:plt a b=false):PL b a:=by
 unfold plt at h;unfold PL
 have:=of_decide_eq_false h
 lia
noncomputable abbrev Sd (l:List (Int × Int)):Prop:=l.Pairwise PL
noncomputable def CO (h:Heap) (c:Addr × Int × Int):Prop:=∃o n t u,h.get? c.1=some o/\o.cls=.type "tuple"/\o.data=.seq #[.int c.2.1 t,.int c.2.2 u] n
noncomputable abbrev rf (c:Addr × Int × Int):Value:=.ref c.1
theorem CO.kept {h h':Heap}{c:Addr × Int × Int}(x:CO h c) (k:∀o,h.get? c.1=some o->h'.get? c.1=some o):CO h' c:=by
 obtain⟨o,n,t,u,h1,h2⟩:=x
 exact⟨o,n,t,u,k o h1,h2⟩
theorem CO.tk {prog:Program}{w:World}{h:Heap}{c:Addr × Int × Int}(x:CO h c):TK prog w h [c.2.1,c.2.2] c.1:=by
 obtain⟨o,n,t,u,h1,h2,h3⟩:=x
 exact⟨o,_,n,h1,h2,h3,.cons (by simp[intKind,Value.isInt]) (.cons (by simp[intKind,Value.isInt]) .nil)⟩
section
variable {prog:Program}{w:World}{A:Around}{E:Value->Shared->Prop}{s:Shared}
theorem zS0 {c d:Addr × Int × Int}{Q:Bool->Shared->Prop}(hc:CO s.heap c) (hd:CO s.heap d) (h:Q (plt c.2 d.2) s):wpAny (model prog w) A (keyLt' (tuples' true) (rf c) (rf d)) Q E s:=by
 obtain⟨o,n,t,u,h1,h2,h3⟩:=hc
 obtain⟨o',n',t',u',h1',h2',h3'⟩:=hd
 refine kat_lt h1 h3 h1' h3' ?_
 show KatLex prog w A true _ Q [(.int c.2.1 t,.int d.2.1 t'),(.int c.2.2 u,.int d.2.2 u')] 0 s
 refine kat_cons (wpAny_eqBool_int ?_)
 unfold plt at h
 by_cases e:c.2.1=d.2.1
 ·rw[show(c.2.1 == d.2.1)=true by simpa using e]
  refine kat_yes (kat_cons (wpAny_eqBool_int ?_))
  by_cases e':c.2.2=d.2.2
  ·rw[show(c.2.2 == d.2.2)=true by simpa using e']
   refine kat_yes (kat_nil ?_)
   rw[show decide (_\/_)=false from xA (by nofun)]at h
   exact h
  ·rw[show(c.2.2 == d.2.2)=false by simpa using e']
   refine kat_no (kat_one _ _ (lt_int ?_))
   rw[show decide (c.2.1<d.2.1\/c.2.1=d.2.1/\c.2.2<d.2.2)=decide (c.2.2<d.2.2)from vS.mpr (by nofun)]at h
   exact h
 ·rw[show(c.2.1 == d.2.1)=false by simpa using e]
  refine kat_no (oneLt_int ?_)
  rw[show decide (c.2.1<d.2.1\/c.2.1=d.2.1/\c.2.2<d.2.2)=decide (c.2.1<d.2.1)from vS.mpr (by nofun)]at h
  exact h
theorem zQy {cs:List (Addr × Int × Int)}(hco:∀c∈cs,CO s.heap c) (h2:2<=cs.length) (h64:cs.length<64) {Q:SortSt->Shared->Prop}
  (h:∀(st:SortSt) (cs':List (Addr × Int × Int)),cs'.Perm cs->Sd (cs'.map (·.2))->failedOf st=none->(arrOf st).map (·.2)=(cs'.map rf).toArray->Q st s):
  wpAny (model prog w) A ((sortRuns').run (SortSt.mk' (tuples' true) ((cs.map rf).toArray.zip (cs.map rf).toArray) #[] 7 none)) (fun r s'=>Q r.2 s') E s:=by
 have dz:∀i,(cs.map rf).getD i Value.none=if i<cs.length then rf (cs.getD i (0,0,0))else Value.none:=fun i=>by
  by_cases c:i<cs.length
  ·rw[xc c];simp[c]
  ·rw[xf c];simp[uu c]
 have cm:∀i,i<cs.length->CO s.heap (cs.getD i (0,0,0)):=fun i hi=>hco _ (by simp[hi])
 have lt_ir:∀i,plt (cs.getD i (0,0,0)).2 (cs.getD i (0,0,0)).2=false:=fun i=>by unfold plt;exact xA (by nofun)
 refine kat_run (Q:=Q) (G:=fun p s'=>s'=s/\Pm cs.length p/\Inc (rank (fun i j=>plt (cs.getD i (0,0,0)).2 (cs.getD j (0,0,0)).2) cs.length) p cs.length) rfl (by simpa using h2) (by simpa using h64) (fun p st' s' hp ha hf hg=>?_) ?_
 ·obtain⟨rfl,pm,inc⟩:=hg
  have pl:p.toList.Perm (List.range cs.length):=by simpa using pm.toList
  refine h st' (p.toList.map fun i=>cs.getD i (0,0,0)) ?_ ?_ hf ?_
  ·refine(pl.map _).trans ?_
   have:(List.range cs.length).map (fun i=>cs.getD i (0,0,0))=cs:=by
    refine List.ext_getElem (by simp) fun i h1 h2=>?_
    simp
    rw[xp h2];rfl
   rw[this]
  ·rw[xG]
   refine yu.mpr fun i j h1 h2 hij=>?_
   have hl:p.toList.length=cs.length:=by simpa using pl.length_eq
   rw[xn]at h1 h2
   have q:=inc i j (vb hij) (by nofun)
   unfold Ky at q
   have g1:p.getD i 0=p.toList[i]:=by simp[Array.getD,show i<p.size by simpa using h1]
   have g2:p.getD j 0=p.toList[j]:=by simp[Array.getD,show j<p.size by simpa using h2]
   rw[g1,g2]at q
   simp only[List.getElem_map,Function.comp]
   have hj:p.toList[j]<cs.length:=xC.mp (pl.mem_iff.mp (v5 _))
   have r:=zOa (lt:=fun i j=>plt (cs.getD i (0,0,0)).2 (cs.getD j (0,0,0)).2) (n:=cs.length) (i:=p.toList[j]) (j:=p.toList[i]) lt_ir (fun i j k=>by unfold plt;simp only[uV];lia) (fun i j k=>by unfold plt;simp only[uV];lia) hj
   rw[xA (by nofun)]at r
   exact zOl r
  ·rw[kat_snds rfl ha,xG]
   congr 1
   refine uW fun i hi=>?_
   have hi':i<cs.length:=xC.mp (pl.mem_iff.mp hi)
   rw[dz,xc hi']
   rfl
 ·rw[xn]
  refine TW.wp (key:=rank (fun i j=>plt (cs.getD i (0,0,0)).2 (cs.getD j (0,0,0)).2) cs.length) (n:=cs.length) (fun i j C hi hj hC=>?_) _ (sort_ (by nofun) fun p a b=>⟨rfl,a,b⟩)
  unfold kas_ask
  rw[dz,dz,xc hi,xc hj]
  refine zS0 (cm i hi) (cm j hj) ?_
  rw[zOa (lt:=fun i j=>plt (cs.getD i (0,0,0)).2 (cs.getD j (0,0,0)).2) lt_ir (fun i j k=>?_) (fun i j k=>?_) hi]
  ·exact hC
  ·unfold plt;simp only[uV];lia
  ·unfold plt;simp only[uV];lia
end
end TS
namespace TS
open PySem TB SR PyProof.Rows PySem.W
section
variable {prog:Program}{w:World}{A:Around}{E:Value->Shared->Prop}{s:Shared}
theorem zN1 {cs:List (Addr × Int × Int)}(hco:∀c∈cs,CO s.heap c) (h2:2<=cs.length) {Q:SortKind->Shared->Prop}(h:Q (tuples' true) s):wpAny (model prog w) A (keyKind' (cs.map rf).toArray) Q E s:=by
 obtain⟨fs,hf,hi⟩:∃fs:List Value,KatTups s.heap (cs.map rf) fs/\fs.length=cs.length/\∀v∈fs,∃n t,v=Value.int n t:=by
  clear h h2
  induction cs with
  | nil=>exact⟨[],trivial,rfl,fun v hv=>by cases hv⟩
  | cons c cs ih=>
   obtain⟨fs,a,b,d⟩:=ih fun c hc=>hco c (.tail _ hc)
   obtain⟨o,n,t,u,h1,h2,h3⟩:=hco c (.head _)
   refine⟨.int c.2.1 t::fs,.cons h1 h2 h3 rfl a,by simp[b],fun v hv=>?_⟩
   rcases xm.mp hv with rfl|hv
   ·exact⟨_,_,rfl⟩
   ·exact d v hv
 exact kat_kind (T:=.type "int") hf (by nofun) (fun v hv=>by obtain⟨n,t,rfl⟩:=hi.2 v hv;exact .now) rfl h
theorem zNy {a:Addr}{cs:List (Addr × Int × Int)}{n:Nat}{P:PySem.Fin->Shared->Prop}(ho:s.heap.get? a=some (seqObj "list" (cs.map rf).toArray n)) (hco:∀c∈cs,CO s.heap c) (h64:cs.length<64)
  (h:∀(cs':List (Addr × Int × Int)) (c:Nat) (h':Heap),cs'.Perm cs->Sd (cs'.map (·.2))->(∀b o,b≠a->s.heap.get? b=some o->h'.get? b=some o)->h'.get? a=some (seqObj "list" (cs'.map rf).toArray c)->P (.done (.ret .none)) { s with heap:=h' }):
  wpAny (model prog w) A (Builtin.«list.sort» ⟨[.ref a],[]⟩) P E s:=by
 have lz:cs.length<=sizeLine:=by rw[vW];lia
 rw[list_sort_plain]
 refine xa (listItems_at ho rfl (xa (listUpdate_at ho rfl ?_ (by simpa using lz) (vf _))))
 obtain⟨e1,ho1⟩:∃e1,(s.heap.update a (Obj.mapSeq fun _=>(#[]:Array Value))).get? a=some (seqObj "list" #[] e1):=⟨_,get?_update_seq ho fun _=>#[]⟩
 have k1:∀b o,b≠a->s.heap.get? b=some o->(s.heap.update a (Obj.mapSeq fun _=>(#[]:Array Value))).get? b=some o:=fun b o hb e=>(uq _ _ (xo hb)).trans e
 generalize s.heap.update a (Obj.mapSeq fun _=>(#[]:Array Value))=g1 at ho1 k1 ⊢
 refine xa (seqEpoch_at ho1 rfl (xa (wpAny_newTuple (xa (wpAny_newList (xF ?_) (vf _))) (by simpa using lz))))
 have ho2:=xj (seqObj "list" #[] 0) (xj (seqObj "tuple" (cs.map rf).toArray 0) ho1)
 have k2:∀b o,b≠a->s.heap.get? b=some o->((g1.push (seqObj "tuple" (cs.map rf).toArray 0)).push (seqObj "list" #[] 0)).get? b=some o:=fun b o hb e=>xj _ (xj _ (k1 b o hb e))
 show wpAny (model prog w) A _ P E { s with heap:=(g1.push (seqObj "tuple" (cs.map rf).toArray 0)).push (seqObj "list" #[] 0) }
 generalize (g1.push (seqObj "tuple" (cs.map rf).toArray 0)).push (seqObj "list" #[] 0)=g2 at ho2 k2 ⊢
 dsimp only
 have hna:∀c∈cs,c.1≠a:=fun c hc z=>by
  obtain⟨o,m,t,u,h1,h2,h3⟩:=hco c hc
  rw[z,ho]at h1;cases h1;exact absurd (show Value.type "list"=Value.type "tuple" from h2) (by decide)
 have hc2:∀c∈cs,CO g2 c:=fun c hc=>(hco c hc).kept fun o e=>k2 _ _ (hna c hc) e
 have fin:∀(st:SortSt) (cs':List (Addr × Int × Int)),cs'.Perm cs->Sd (cs'.map (·.2))->failedOf st=none->(arrOf st).map (·.2)=(cs'.map rf).toArray->
   wpAny (model prog w) A (do
    let touched:=(<- seqEpoch a) != e1
    Builtin.List.listUpdate (.ref a) fun _=>(arrOf st).map (·.2)
    if let some e:=failedOf st then rule "list.sort.comparison-raised";throw e
    if touched then rule "list.sort.modified";raiseError "ValueError" "list modified during sort"
    ret .none) P E { s with heap:=g2 }:=fun st cs' pm sd hf ha=>by
  refine xa (seqEpoch_at ho2 rfl ?_)
  rw[ha]
  refine xa (listUpdate_at ho2 rfl ?_ (vf _) (by simp;rw[pm.length_eq];exact Nat.le_succ_of_le lz))
  rw[hf]
  simp only[bne_self_eq_false,x9,xO]
  obtain⟨c,hc⟩:∃c,(g2.update a (Obj.mapSeq fun _=>(cs'.map rf).toArray)).get? a=some (seqObj "list" (cs'.map rf).toArray c):=⟨_,get?_update_seq ho2 fun _=>(cs'.map rf).toArray⟩
  exact xg (h cs' c _ pm sd (fun b o hb e=>(uq _ _ (xo hb)).trans (k2 b o hb e)) hc)
 by_cases c2:(cs.map rf).toArray.size<2
 ·rw[xc c2,xc c2]
  refine xa (xg ?_)
  rw[StateT.run_pure]
  refine xa (xg ?_)
  refine fin (SortSt.mk' general' ((cs.map rf).toArray.zip (cs.map rf).toArray) #[] 7 none) cs (.refl _) ?_ rfl ?_
  ·match cs,c2 with
   | [],_=>exact .nil
   | [c],_=>exact List.pairwise_singleton _ _
   | c::d::r,c2=>exact absurd c2 (by simp)
  ·show(((cs.map rf).toArray.zip (cs.map rf).toArray)).map (·.2)=_
   apply Array.toList_inj.mp
   simp[List.map_snd_zip]
 ·rw[xf c2,xf c2]
  have c3:2<=cs.length:=by simp at c2;lia
  refine xa (zN1 (s:={ s with heap:=g2 }) hc2 c3 ?_)
  refine xa (vB (zQy (s:={ s with heap:=g2 }) (Q:=fun st s'=>s'={ s with heap:=g2 }/\∃cs',cs'.Perm cs/\Sd (cs'.map (·.2))/\failedOf st=none/\(arrOf st).map (·.2)=(cs'.map rf).toArray) hc2 c3 h64 fun st cs' a b c d=>⟨rfl,cs',a,b,c,d⟩) ?_ fun _ _ e=>e)
  rintro⟨⟨⟩,st⟩ s' ⟨rfl,cs',a1,a2,a3,a4⟩
  exact fin st cs' a1 a2 a3 a4
theorem zG7 {r:Addr}{m:Nat}{G:List (Addr × Int × Int)->Prop}{Q:Value->Shared->Prop}
  (hcol:∀R:List Value->Shared->Prop,(∀(h':Heap) (tk:Nat) (cs:List (Addr × Int × Int)),m<=h'.objs.size->(∀b o,s.heap.get? b=some o->h'.get? b=some o)->(∀c∈cs,CO h' c)->cs.length<64->G cs->R (cs.map rf) { s with heap:=h',toks:=tk })->wpAny (model prog w) A.in1 (collect (.ref r)) R E s)
  (h:∀(cs cs':List (Addr × Int × Int)) (c tk:Nat) (h':Heap) (D:Addr),G cs->cs.length<64->cs'.Perm cs->Sd (cs'.map (·.2))->m<=D->(∀b o,s.heap.get? b=some o->h'.get? b=some o)->h'.get? D=some (seqObj "list" (cs'.map rf).toArray c)->Q (.ref D) { s with heap:=h',toks:=tk }):
  wpAny (model prog w) A (call (.builtin "sorted") [.ref r]) Q E s:=by
 refine Calls.call_function_entry kind_sorted plain_sorted entry_sorted (args_sorted1 _) ?_
 unfold Builtin.«sorted»
 refine xa (m:=checkCount "sorted" 1 1 _) (xg (xa (hcol _ fun h' tk cs sz kp hco h64 hg=>?_)))
 have lz:cs.length<=sizeLine:=by rw[vW];lia
 refine xa (wpAny_newList ?_ (by simpa using lz))
 have hoL:(h'.push (seqObj "list" (cs.map rf).toArray 0)).get? h'.objs.size=some (seqObj "list" (cs.map rf).toArray 0):=xu _ rfl
 have k0:∀b o,h'.get? b=some o->(h'.push (seqObj "list" (cs.map rf).toArray 0)).get? b=some o:=fun b o e=>xj _ e
 refine xa (xF (vk slot_list_sort ⟨_,hoL,rfl⟩ entry_list_sort (zNy (s:={ s with heap:=h'.push (seqObj "list" (cs.map rf).toArray 0),toks:=tk }) hoL (fun c hc=>(hco c hc).kept fun o e=>k0 _ _ e) h64 fun cs' c h2 pm sd k2 hD=>⟨_,rfl,?_⟩) (args_list_sort _)))
 exact xg ⟨_,rfl,h cs cs' c tk h2 _ hg h64 pm sd sz (fun b o e=>k2 b o (xq (xl (kp b o e))) (k0 b o (kp b o e))) hD⟩
theorem col_set {κ:Addr->List Int}{S:Addr}{es:Array (Int × Value)}{cs:List (Addr × Int × Int)}(hh:A.handled=none) (hS:IsS prog w κ s.heap S es (zKi w)) (hco:∀c∈cs,CO s.heap c) (hκ:∀c∈cs,κ c.1=[c.2.1,c.2.2]) (he:∀e∈es.toList,∃c∈cs,e.2=rf c) (hz:es.size<64):
  ∀R:List Value->Shared->Prop,(∀(h':Heap) (tk:Nat) (cs':List (Addr × Int × Int)),S+1<=h'.objs.size->(∀b o,s.heap.get? b=some o->h'.get? b=some o)->(∀c∈cs',CO h' c)->cs'.length<64->(cs'.length=es.size/\(∀c∈cs',c∈cs)/\(cs'.map (·.2)).Nodup/\∀e∈es.toList,∃c∈cs',e.2=rf c)->R (cs'.map rf) { s with heap:=h',toks:=tk })->wpAny (model prog w) A (collect (.ref S)) R E s:=by
 intro R h
 obtain⟨ep,t,ho,T,_,_,nd⟩:=hS
 refine kdu_collect (zUe T) hh ho (by rw[vW];lia) fun h' tk acc kp it=>?_
 have ea:acc.toList=((ordW w S ep es).map (·.2)).toList:=by
  refine List.ext_getElem? fun i=>?_
  rcases xJ i acc.size with z|z
  ·have e1:=it.2 i acc[i] (va z)
   rw[yr,va z,yr,e1]
  ·rw[vK (by simpa using z),vK (by simp[zEt];rw[<- it.1];exact z)]
 obtain⟨cs',e1,e2⟩:∃cs':List (Addr × Int × Int),acc.toList=cs'.map rf/\∀c∈cs',c∈cs:=by
  have al:∀v∈acc.toList,∃c∈cs,v=rf c:=fun v hv=>by
   rw[ea]at hv
   obtain⟨e,hm,rfl⟩:=xk.mp (by simpa using hv:v∈(ordW w S ep es).toList.map (·.2))
   exact he _ ((zGa w S ep es).mem_iff.mp hm)
  generalize acc.toList=l at al
  clear ea
  induction l with
  | nil=>exact⟨[],rfl,fun c hc=>by cases hc⟩
  | cons v l ih=>
   obtain⟨c,hc,e⟩:=al v (.head _)
   obtain⟨r,e1,e2⟩:=ih fun u hu=>al u (.tail _ hu)
   refine⟨c::r,by rw[e,e1];rfl,fun d hd=>?_⟩
   rcases xm.mp hd with rfl|hd
   ·exact hc
   ·exact e2 d hd
 have ln:cs'.length=es.size:=by
  have h1:acc.toList.length=cs'.length:=by rw[e1,xn]
  rw[<- h1,uG];exact it.1
 have pm:(cs'.map rf).Perm (es.toList.map (·.2)):=by
  rw[<- e1,ea,Array.toList_map]
  exact(zGa w S ep es).map _
 have nk:(cs'.map fun c=>[c.2.1,c.2.2]).Nodup:=by
  have p2:(cs'.map fun c=>[c.2.1,c.2.2]).Perm (es.toList.map (kv κ)):=by
   have p3:=pm.map (fun v=>κ (adr v))
   rw[xG,xG]at p3
   have e4:cs'.map ((fun v=>κ (adr v)) ∘ rf)=cs'.map fun c=>[c.2.1,c.2.2]:=uW fun c hc=>hκ c (e2 c hc)
   rw[e4]at p3
   exact p3
  exact p2.nodup_iff.mpr nd
 have ns:(cs'.map (·.2)).Nodup:=by
  have nk':((cs'.map (·.2)).map fun p:Int × Int=>[p.1,p.2]).Nodup:=by rw[xG];exact nk
  exact(yj.mp nk').imp fun {a b} h e=>h (by rw[e])
 rw[e1]
 refine h h' tk cs' (xl (kp S _ ho)) kp (fun c hc=>(hco c (e2 c hc)).kept fun o e=>kp _ _ e) (by nofun) ⟨ln,e2,ns,fun e hm=>?_⟩
 obtain⟨c,hc,q⟩:=xk.mp (pm.mem_iff.mpr (xk.mpr ⟨e,hm,rfl⟩))
 exact⟨c,hc,q.symm⟩
end
end TS
namespace L2
open PySem PySem.Spec PyProof.Rows TS
noncomputable abbrev rv (cs:List (Addr × Int × Int)):List V:=cs.map fun c=>V.ref c.1
noncomputable def CH (H:Hp) (c:Addr × Int × Int):Prop:=H c.1=some (.tup [.int c.2.1,.int c.2.2])
section
variable {X:Cx}{K:PySem.W.Frag}{pins:List (Addr × Obj)}{σ:St}{H:Hp}{s:Shared}
theorem CH.co {c:Addr × Int × Int}(I:Inv X pins σ H s) (h:CH H c):CO s.heap c:=by
 obtain⟨_,its,r,o,ho,hc,n,hd⟩:=(show ObjOk X.prog X.w H s.heap c.1 (.tup _)from I.hok _ _ h)
 obtain⟨u,v,rfl,⟨t,rfl⟩,⟨t',rfl⟩⟩:=vals2 r
 exact⟨o,n,t,t',ho,hc,hd⟩
theorem zNo:∀{cs:List (Addr × Int × Int)}{us:List Value},Vals (rv cs) us->us=cs.map rf
 | [],_,.nil=>rfl
 | c::cs,_,.cons r1 r2=>by rw[zNo r2];cases r1;rfl
theorem zO6:∀(cs:List (Addr × Int × Int)),Vals (rv cs) (cs.map rf)
 | []=>.nil
 | c::cs=>.cons rfl (zO6 cs)
theorem yAx {c d:Addr × Int × Int}(h:CH H c) (h':CH H d) (e:c.1=d.1):c=d:=by
 unfold CH at h h'
 rw[e,h']at h
 have:[V.int d.2.1,V.int d.2.2]=[V.int c.2.1,V.int c.2.2]:=HO.tup.inj (xE h)
 simp only[List.cons.injEq,V.int.injEq]at this
 exact Prod.ext e (Prod.ext this.1.symm this.2.1.symm)
noncomputable def kOf (cs:List (Addr × Int × Int)) (a:Addr):List Int:=((cs.find? fun c=>c.1 == a).map fun c=>[c.2.1,c.2.2]).getD []
theorem zZb {cs:List (Addr × Int × Int)}(h:∀c∈cs,CH H c) {c:Addr × Int × Int}(hc:c∈cs):kOf cs c.1=[c.2.1,c.2.2]:=by
 unfold kOf
 cases e:cs.find? fun d=>d.1 == c.1 with
 | none=>have:=List.find?_eq_none.mp e c hc;simp at this
 | some d=>
  have h1:d.1=c.1:=by simpa using List.find?_some e
  rw[yAx (h d (List.mem_of_find?_eq_some e)) (h c hc) h1]
  rfl
end
end L2
namespace TS
open PySem
noncomputable def KIt (b:Bool) (h:Heap) (i a:Addr) (k:Nat):Prop:=∃o,h.get? i=some o/\o.cls=.type (if b then "tuple_iterator" else "list_iterator")/\o.data=.fields #[.ref a,.int k 0]
noncomputable def KSq (b:Bool) (h:Heap) (a:Addr) (xs:Array Value):Prop:=∃o,h.get? a=some o/\o.cls=.type (if b then "tuple" else "list")/\∃n,o.data=.seq xs n
theorem KIt.at {b:Bool}{h h':Heap}{i a:Addr}{k:Nat}(x:KIt b h i a k) (e:∀o,h.get? i=some o->h'.get? i=some o):KIt b h' i a k:=let ⟨o,ho,r⟩:=x;⟨o,e _ ho,r⟩
theorem KSq.at {b:Bool}{h h':Heap}{a:Addr}{xs:Array Value}(x:KSq b h a xs) (e:∀o,h.get? a=some o->h'.get? a=some o):KSq b h' a xs:=let ⟨o,ho,r⟩:=x;⟨o,e _ ho,r⟩
theorem KIt.xb {b:Bool}{h h':Heap}{i a c:Addr}{k:Nat}(x:KIt b h i a k) (e:Heap.ExtBut c h h') (n:i≠c):KIt b h' i a k:=x.at fun o q=>e _ _ n q
theorem KSq.xb {b:Bool}{h h':Heap}{a c:Addr}{xs:Array Value}(x:KSq b h a xs) (e:Heap.ExtBut c h h') (n:a≠c):KSq b h' a xs:=x.at fun o q=>e _ _ n q
section
variable {prog:Program}{w:World}{A:Around}{E:Value->Shared->Prop}{s:Shared}
theorem next_item {b:Bool}{it l:Addr}{i:Nat}{items:Array Value}{x:Value}{Q:Value->Shared->Prop}(hit:KIt b s.heap it l i) (hl:KSq b s.heap l items) (hx:items[i]?=some x)
  (hQ:∀h',KIt b h' it l (i+1)->Heap.SameBut it s.heap h'->Q x { s with heap:=h' }):wpAny (model prog w) A (Builtin.SmallTypes.nextOf (.ref it)) Q E s:=by
 cases b with
 | false=>exact wpAny_nextOf_list_item hit hl hx hQ
 | true=>
  obtain⟨o,ho,hc,hd⟩:=id hit
  obtain⟨ol,hol,_,nl,hdl⟩:=hl
  have hT:s.TypeIs (.ref it) "tuple_iterator":=⟨o,ho,hc⟩
  unfold Builtin.SmallTypes.nextOf
  refine xa (vF (name:=Str.ofString "__next__") hT yw (vk yw hT F.entry_tuple_iterator_next ?_ (F.args_tuple_iterator_next_1 _)))
  refine(show wpAny _ _ (field (.ref it) 0 >>= _) _ _ s from xa (xD ho hd (x:=.ref l) rfl (show wpAny _ _ (if(Value.ref l == Value.none)=true then _ else _) _ _ s from ?_)))
  rw[xf (show ¬ ((Value.ref l == Value.none)=true)from Bool.false_ne_true)]
  refine(show wpAny _ _ (field (.ref it) 1 >>= _) _ _ s from xa (xD ho hd (x:=.int i 0) rfl (show wpAny _ _ (seqItems? (.ref l) >>= _) _ _ s from xa (vm hol hdl ?_))))
  simp only[uT,hx]
  refine xa (wpAny_setField ho hd (by simp) (xg ⟨x,rfl,xg (hQ _ ⟨_,vJ _ ho (Obj.isFreed_of_fields (uU hd _)),(Obj.cls_mapFields ..).trans hc,?_⟩ (uC ..))⟩))
  rw[uU hd];simp[rawInt]
theorem next_end {b:Bool}{it l:Addr}{i:Nat}{items:Array Value}{Q:Value->Shared->Prop}(hh:A.handled=none) (hit:KIt b s.heap it l i) (hl:KSq b s.heap l items) (hx:items[i]?=none)
  (hE:∀h' e,Heap.ExtBut it s.heap h'->(∃o,h'.get? e=some o/\o.cls=.type "StopIteration")->E (.ref e) { s with heap:=h' }):wpAny (model prog w) A (Builtin.SmallTypes.nextOf (.ref it)) Q E s:=by
 cases b with
 | false=>exact wpAny_nextOf_list_end hh hit hl hx hE
 | true=>
  obtain⟨o,ho,hc,hd⟩:=id hit
  obtain⟨ol,hol,_,nl,hdl⟩:=hl
  have hT:s.TypeIs (.ref it) "tuple_iterator":=⟨o,ho,hc⟩
  unfold Builtin.SmallTypes.nextOf
  refine xa (vF (name:=Str.ofString "__next__") hT yw (vk yw hT F.entry_tuple_iterator_next ?_ (F.args_tuple_iterator_next_1 _)))
  refine(show wpAny _ _ (field (.ref it) 0 >>= _) _ _ s from xa (xD ho hd (x:=.ref l) rfl (show wpAny _ _ (if(Value.ref l == Value.none)=true then _ else _) _ _ s from ?_)))
  rw[xf (show ¬ ((Value.ref l == Value.none)=true)from Bool.false_ne_true)]
  refine(show wpAny _ _ (field (.ref it) 1 >>= _) _ _ s from xa (xD ho hd (x:=.int i 0) rfl (show wpAny _ _ (seqItems? (.ref l) >>= _) _ _ s from xa (vm hol hdl ?_))))
  simp only[uT,hx]
  refine xa (wpAny_rule (xa (wpAny_setField ho hd (by simp) (show wpAny _ _ (newExc (.type "StopIteration") [] >>= _) _ _ _ from xa ?_))))
  simp only[newExc,newTuple]
  refine xa (vd (xa (m:=firstArgMember _ _) (wpAny_of_eq (a:=Value.none) (by first|rfl|(simp only[firstArgMember];rfl)) (vd ?_ (by size_fits)))) (by size_fits))
  simp only[raiseNew]
  refine xa (wpAny_handled ?_);rw[show A.in1.handled=none from hh]
  refine xa (xg (wpAny_throw ?_))
  exact hE _ _ (((uC ..).extBut.push _).push _) ⟨_,xu _ rfl,rfl⟩
theorem zU3 {b1 b2:Bool}{z TI TO i1 i2 l1 l2:Addr}{k1 k2:Nat}{xs ys:Array Value}{x y a b:Value}{Q:Option Value->Shared->Prop}(D:ZipApart z TI TO i1 i2 l1 l2)
  (hz:IsZip s.heap z TI TO .none) (hTI:IsPair s.heap TI (.ref i1) (.ref i2)) (hTO:IsPair s.heap TO a b) (h1:KIt b1 s.heap i1 l1 k1) (h2:KIt b2 s.heap i2 l2 k2) (q1:KSq b1 s.heap l1 xs) (q2:KSq b2 s.heap l2 ys) (hx:xs[k1]?=some x) (hy:ys[k2]?=some y)
  (hQ:∀h',IsZip h' z TI TO (rawInt s.heap.objs.size)->IsPair h' TO x y->KIt b1 h' i1 l1 (k1+1)->KIt b2 h' i2 l2 (k2+1)->IsPair h' s.heap.objs.size x y->(∀c o,c≠z->c≠TO->c≠i1->c≠i2->s.heap.get? c=some o->h'.get? c=some o)->Q (some (.ref s.heap.objs.size)) { s with heap:=h' }):
  wpAny (model prog w) A (pyNext (.ref z)) Q E s:=by
 have hT:s.TypeIs (.ref z) "zip":=⟨_,hz,rfl⟩
 unfold pyNext
 refine xa (uS (vF (name:=Str.ofString "__next__") hT uf (vk uf hT F.entry_zip_next ?_ (F.args_zip_next_1 _))))
 refine(show wpAny _ _ (field (.ref z) 2 >>= _) _ _ _ from xa (xD hz rfl (x:=.bool false) rfl (show wpAny _ _ (field (.ref z) 3 >>= _) _ _ _ from xa (xD hz rfl (x:=.ref TI) rfl (xa (vm hTI rfl (show wpAny _ _ (Builtin.SmallTypes.ownedTupleIsFree (.ref z) >>= _) _ _ _ from xa ?_)))))))
 unfold Builtin.SmallTypes.ownedTupleIsFree;refine xa (xD hz rfl (x:=.none) rfl (xg ?_));simp only[xi]
 refine xa (wpAny_rule (xa (xD hz rfl (x:=.ref TO) rfl (xa (uE hz (by simp) fun g1 z1 s1=>xa ?_)))))
 replace z1:IsZip g1 z TI TO .ellipsis:=z1
 simp only[List.zipIdx_cons,List.zipIdx_nil,uv,uM]
 refine xa (xa (wpAny_onRaise (show wpAny _ _ (Builtin.SmallTypes.nextOf (.ref i1) >>= _) _ _ _ from xa (next_item (h1.xb s1.extBut D.i1z) (q1.xb s1.extBut D.l1z) hx fun g2 h12 s2=>xg ?_))))
 have T2:IsPair g2 TO a b:=s2.extBut _ _ D.TOi1 (s1.extBut _ _ D.TOz hTO)
 refine xa (vm T2 rfl (xa (wpAny_updateSeq_pair T2 fun g3 T3 s3=>xa (wpAny_letGo (xg ?_)))))
 replace T3:IsPair g3 TO x b:=T3
 refine xa (xa (wpAny_onRaise (show wpAny _ _ (Builtin.SmallTypes.nextOf (.ref i2) >>= _) _ _ _ from xa (next_item (((h2.xb s1.extBut D.i2z).xb s2.extBut D.i12.symm).xb s3.extBut D.TOi2.symm) (((q2.xb s1.extBut D.l2z).xb s2.extBut D.l2i1).xb s3.extBut D.l2TO) hy fun g4 h24 s4=>xg ?_))))
 have T4:IsPair g4 TO x b:=s4.extBut _ _ D.TOi2 T3
 refine xa (vm T4 rfl (xa (wpAny_updateSeq_pair T4 fun g5 T5 s5=>xa (wpAny_letGo (xg (xg ?_))))))
 replace T5:IsPair g5 TO x y:=T5
 refine xa (vm T5 rfl (xa (wpAny_newTuple ?_)))
 have sz:g5.objs.size=s.heap.objs.size:=by rw[s5.1,s4.1,s3.1,s2.1,s1.1]
 have z5:IsZip g5 z TI TO .ellipsis:=s5.extBut _ _ D.TOz.symm (s4.extBut _ _ D.i2z.symm (s3.extBut _ _ D.TOz.symm (s2.extBut _ _ D.i1z.symm z1)))
 have k5:∀c o,c≠z->c≠TO->c≠i1->c≠i2->s.heap.get? c=some o->g5.get? c=some o:=fun c o c1 c2 c3 c4 e=>s5.extBut _ _ c2 (s4.extBut _ _ c4 (s3.extBut _ _ c2 (s2.extBut _ _ c3 (s1.extBut _ _ c1 e))))
 have a5:KIt b1 g5 i1 l1 (k1+1):=((h12.xb s3.extBut D.TOi1.symm).xb s4.extBut D.i12).xb s5.extBut D.TOi1.symm
 have b5:KIt b2 g5 i2 l2 (k2+1):=h24.xb s5.extBut D.TOi2.symm
 have zlt:z<g5.objs.size:=xl z5
 refine(show wpAny _ _ (Builtin.SmallTypes.ownedTupleHandOut (.ref z) (.ref g5.objs.size) >>= _) _ _ _ from xa ?_)
 unfold Builtin.SmallTypes.ownedTupleHandOut
 have z6:IsZip (g5.push { cls:=.type "tuple",data:=.seq #[x,y] }) z TI TO .ellipsis:=xj _ z5
 refine xa (uE z6 (by simp) fun g7 z7 s7=>?_)
 replace z7:IsZip g7 z TI TO (rawInt g5.objs.size):=z7
 refine uE z7 (by simp) fun g8 z8 s8=>?_
 replace z8:IsZip g8 z TI TO (rawInt g5.objs.size):=z8
 have up:∀c o,c≠z->g5.get? c=some o->g8.get? c=some o:=fun c o c1 e=>s8.extBut _ _ c1 (s7.extBut _ _ c1 (xj _ e))
 have T8:IsPair g8 g5.objs.size x y:=s8.extBut _ _ (vC zlt) (s7.extBut _ _ (vC zlt) (xu _ rfl))
 rw[sz]at z8 T8
 refine xg ⟨_,rfl,?_⟩
 show wpAny _ _ (pure (some (Value.ref g5.objs.size))) _ _ _
 rw[sz]
 exact xg (hQ g8 z8 (up _ _ D.TOz T5) (a5.at fun o e=>up _ o D.i1z e) (b5.at fun o e=>up _ o D.i2z e) T8 fun c o c1 c2 c3 c4 e=>up c o c1 (k5 c o c1 c2 c3 c4 e))
theorem zX9 {b1 b2:Bool}{z TI TO i1 i2 l1 l2:Addr}{k1 k2:Nat}{xs ys:Array Value}{a b:Value}{Q:Option Value->Shared->Prop}(hh:A.handled=none) (D:ZipApart z TI TO i1 i2 l1 l2)
  (hz:IsZip s.heap z TI TO .none) (hTI:IsPair s.heap TI (.ref i1) (.ref i2)) (hTO:IsPair s.heap TO a b) (h1:KIt b1 s.heap i1 l1 k1) (h2:KIt b2 s.heap i2 l2 k2) (q1:KSq b1 s.heap l1 xs) (q2:KSq b2 s.heap l2 ys) (hend:xs[k1]?=none\/ys[k2]?=none)
  (hQ:∀h',(∀c o,c≠z->c≠TO->c≠i1->c≠i2->s.heap.get? c=some o->h'.get? c=some o)->Q none { s with heap:=h' }):wpAny (model prog w) A (pyNext (.ref z)) Q E s:=by
 have hT:s.TypeIs (.ref z) "zip":=⟨_,hz,rfl⟩
 unfold pyNext
 have stop:∀(g:Heap) (e:Addr),(∀c o,c≠z->c≠TO->c≠i1->c≠i2->s.heap.get? c=some o->g.get? c=some o)->(∃o,g.get? e=some o/\o.cls=.type "StopIteration")->wpAny (model prog w) A (do
   let b <- isInstance (.ref e) (.type "StopIteration")
   if b=true then pure none else throw (.ref e)) Q E { s with heap:=g }:=fun g e kp hz1=>by obtain⟨o,ho,hc⟩:=hz1;exact xa (yc (b:=true) (T:="StopIteration") ⟨o,ho,hc⟩ isSubtype_stop (xg (hQ _ kp)))
 refine xa (uS (vF (name:=Str.ofString "__next__") hT uf (vk uf hT F.entry_zip_next ?_ (F.args_zip_next_1 _))))
 refine(show wpAny _ _ (field (.ref z) 2 >>= _) _ _ _ from xa (xD hz rfl (x:=.bool false) rfl (show wpAny _ _ (field (.ref z) 3 >>= _) _ _ _ from xa (xD hz rfl (x:=.ref TI) rfl (xa (vm hTI rfl (show wpAny _ _ (Builtin.SmallTypes.ownedTupleIsFree (.ref z) >>= _) _ _ _ from xa ?_)))))))
 unfold Builtin.SmallTypes.ownedTupleIsFree;refine xa (xD hz rfl (x:=.none) rfl (xg ?_));simp only[xi]
 refine xa (wpAny_rule (xa (xD hz rfl (x:=.ref TO) rfl (xa (uE hz (by simp) fun g1 z1 s1=>xa ?_)))))
 replace z1:IsZip g1 z TI TO .ellipsis:=z1
 simp only[List.zipIdx_cons,List.zipIdx_nil,uv,uM]
 have hhi:A.in1.handled=none:=hh
 refine xa (xa (wpAny_onRaise (show wpAny _ _ (Builtin.SmallTypes.nextOf (.ref i1) >>= _) _ _ _ from xa ?_)))
 cases hx:xs[k1]? with
 | none=>
  refine next_end hhi (h1.xb s1.extBut D.i1z) (q1.xb s1.extBut D.l1z) hx fun g2 e s2 he=>?_
  obtain⟨oe,hoe,hce⟩:=he
  have z2:IsZip g2 z TI TO .ellipsis:=s2 _ _ D.i1z.symm z1
  have ne:e≠z:=fun x=>by subst x;rw[z2]at hoe;cases hoe;simp at hce
  exact uE z2 (by simp) fun g3 _ s3=>stop g3 e (fun c o c1 _ c3 _ x=>s3.extBut _ _ c1 (s2 _ _ c3 (s1.extBut _ _ c1 x))) ⟨oe,s3.extBut _ _ ne hoe,hce⟩
 | some x=>
  have hy:ys[k2]?=none:=by rcases hend with h|h;rw[hx]at h;cases h;exact h
  refine next_item (h1.xb s1.extBut D.i1z) (q1.xb s1.extBut D.l1z) hx fun g2 h12 s2=>xg ?_
  have T2:IsPair g2 TO a b:=s2.extBut _ _ D.TOi1 (s1.extBut _ _ D.TOz hTO)
  refine xa (vm T2 rfl (xa (wpAny_updateSeq_pair T2 fun g3 T3 s3=>xa (wpAny_letGo (xg ?_)))))
  refine xa (xa (wpAny_onRaise (show wpAny _ _ (Builtin.SmallTypes.nextOf (.ref i2) >>= _) _ _ _ from xa (next_end hhi (((h2.xb s1.extBut D.i2z).xb s2.extBut D.i12.symm).xb s3.extBut D.TOi2.symm) (((q2.xb s1.extBut D.l2z).xb s2.extBut D.l2i1).xb s3.extBut D.l2TO) hy fun g4 e s4 he=>?_))))
  obtain⟨oe,hoe,hce⟩:=he
  have z4:IsZip g4 z TI TO .ellipsis:=s4 _ _ D.i2z.symm (s3.extBut _ _ D.TOz.symm (s2.extBut _ _ D.i1z.symm z1))
  have ne:e≠z:=fun x=>by subst x;rw[z4]at hoe;cases hoe;simp at hce
  exact uE z4 (by simp) fun g5 _ s5=>stop g5 e (fun c o c1 c2 c3 c4 x=>s5.extBut _ _ c1 (s4 _ _ c4 (s3.extBut _ _ c2 (s2.extBut _ _ c3 (s1.extBut _ _ c1 x))))) ⟨oe,s5.extBut _ _ ne hoe,hce⟩
end
end TS
namespace TS
open PySem
noncomputable abbrev itO (b:Bool) (l:Addr):Obj:={ cls:=.type (if b then "tuple_iterator" else "list_iterator"),data:=.fields #[.ref l,.int 0 0] }
section
variable {prog:Program}{w:World}{A:Around}{E:Value->Shared->Prop}{s:Shared}
theorem zTo {b:Bool}{l:Addr}{xs:Array Value}{Q:Value->Shared->Prop}(q:KSq b s.heap l xs) (h:Q (.ref s.heap.objs.size) { s with heap:=s.heap.push (itO b l) }):wpAny (model prog w) A (pyIter (.ref l)) Q E s:=by
 cases b with
 | false=>exact yf q h
 | true=>exact wpAny_pyIter_tuple q h
end
noncomputable abbrev kz1 (b1 b2:Bool) (h:Heap) (l1 l2:Addr):Heap:=(h.push (itO b1 l1)).push (itO b2 l2)
noncomputable abbrev kz2 (b1 b2:Bool) (h:Heap) (l1 l2:Addr):Heap:=(kz1 b1 b2 h l1 l2).push { cls:=.type "tuple",data:=.seq #[.ref h.objs.size,.ref (h.push (itO b1 l1)).objs.size] }
noncomputable abbrev kz3 (b1 b2:Bool) (h:Heap) (l1 l2:Addr):Heap:=(kz2 b1 b2 h l1 l2).push { cls:=.type "tuple",data:=.seq #[.none,.none] }
noncomputable abbrev kz4 (b1 b2:Bool) (h:Heap) (l1 l2:Addr):Heap:=(kz3 b1 b2 h l1 l2).push { cls:=.type "zip",data:=.fields #[.none,.bool false,.bool false,.ref (kz1 b1 b2 h l1 l2).objs.size,.ref (kz2 b1 b2 h l1 l2).objs.size] }
theorem zZ6 (b1 b2:Bool) (l1 l2:Addr) (xs ys:Array Value):Meets (Builtin.«zip.__new__» ⟨[.type "zip",.ref l1,.ref l2],[]⟩) (fun _ R s=>KSq b1 s.heap l1 xs/\KSq b2 s.heap l2 ys/\R (.ok (.ret (.ref (kz3 b1 b2 s.heap l1 l2).objs.size))) { s with heap:=kz4 b1 b2 s.heap l1 l2 }):=
 .of_wp fun prog w A R s h=>by
  obtain⟨hp,g,d,tk,os⟩:=s;obtain⟨q1,q2,h⟩:=h
  have hsub:=sub_zip
  have L1:KSq b1 (Shared.heap ⟨hp,g,d,tk,os⟩) l1 xs:=q1
  have L2:KSq b2 (Shared.heap ⟨hp.push (itO b1 l1),g,d,tk,os⟩) l2 ys:=q2.at fun o e=>xj _ e
  wp_walk using zTo L1,zTo L2
  exact⟨_,rfl,h⟩
section
variable {prog:Program}{w:World}{A:Around}{E:Value->Shared->Prop}{s:Shared}
theorem zW3 {b1 b2:Bool}{l1 l2:Addr}{xs ys:Array Value}{Q:Value->Shared->Prop}(q1:KSq b1 s.heap l1 xs) (q2:KSq b2 s.heap l2 ys)
  (h:∀h',IsZip h' (s.heap.objs.size+4) (s.heap.objs.size+2) (s.heap.objs.size+3) .none->IsPair h' (s.heap.objs.size+2) (.ref s.heap.objs.size) (.ref (s.heap.objs.size+1))->
   IsPair h' (s.heap.objs.size+3) .none .none->KIt b1 h' s.heap.objs.size l1 0->KIt b2 h' (s.heap.objs.size+1) l2 0->(∀c o,s.heap.get? c=some o->h'.get? c=some o)->Q (.ref (s.heap.objs.size+4)) { s with heap:=h' }):
  wpAny (model prog w) A (call (.type "zip") [.ref l1,.ref l2]) Q E s:=by
 refine callType_new F.called_zip (by decide) (F.typeCall_zip_2 _ _) (F.newCall_zip_2 _ _) (fun obj=>F.args_object_init_3 obj _ _) F.entry_zip_new (zZ6 b1 b2 l1 l2 xs ys) ⟨q1,q2,?_⟩
 have z0:(s.heap.push (itO b1 l1)).objs.size=s.heap.objs.size+1:=ve ..
 have z1:(kz1 b1 b2 s.heap l1 l2).objs.size=s.heap.objs.size+2:=by rw[ve,z0]
 have z2:(kz2 b1 b2 s.heap l1 l2).objs.size=s.heap.objs.size+3:=by rw[ve,z1]
 have z3:(kz3 b1 b2 s.heap l1 l2).objs.size=s.heap.objs.size+4:=by rw[ve,z2]
 have g5:(kz4 b1 b2 s.heap l1 l2).get? (kz3 b1 b2 s.heap l1 l2).objs.size=some _:=xu _ rfl
 have g4:(kz4 b1 b2 s.heap l1 l2).get? (kz2 b1 b2 s.heap l1 l2).objs.size=some _:=xj _ (xu _ rfl)
 have g3:(kz4 b1 b2 s.heap l1 l2).get? (kz1 b1 b2 s.heap l1 l2).objs.size=some _:=xj _ (xj _ (xu _ rfl))
 have g2:(kz4 b1 b2 s.heap l1 l2).get? (s.heap.push (itO b1 l1)).objs.size=some (itO b2 l2):=xj _ (xj _ (xj _ (xu _ (by cases b2 <;> rfl))))
 have g1:(kz4 b1 b2 s.heap l1 l2).get? s.heap.objs.size=some (itO b1 l1):=xj _ (xj _ (xj _ (xj _ (xu _ (by cases b1 <;> rfl)))))
 have gk:∀c o,s.heap.get? c=some o->(kz4 b1 b2 s.heap l1 l2).get? c=some o:=fun c o x=>xj _ (xj _ (xj _ (xj _ (xj _ x))))
 show _/\_
 rw[z3]at g5 ⊢
 rw[z1,z2]at g5
 rw[z1,z0]at g3
 rw[z2]at g4
 rw[z0]at g2
 exact⟨⟨_,g5,rfl⟩,h _ g5 g3 g4 ⟨_,g1,rfl,rfl⟩ ⟨_,g2,rfl,rfl⟩ gk⟩
end
end TS
namespace L2
open PySem PySem.Spec PyProof.Rows TS
noncomputable def hoK (b:Bool) (xs:List V):HO:=if b then .tup xs else .lst xs
theorem Inv.kSq {X:Cx}{pins:List (Addr × Obj)}{σ:St}{H:Hp}{s:Shared}{b:Bool}{a:Addr}{xs:List V}(I:Inv X pins σ H s) (h:H a=some (hoK b xs)):∃its:List Value,Vals xs its/\KSq b s.heap a its.toArray/\xs.length<=sizeLine:=by
 cases b with
 | false=>obtain⟨its,r,p,z⟩:=I.list (SqL.of h);exact⟨its,r,p.isList,z⟩
 | true=>obtain⟨its,r,p,z⟩:=I.tuple (SqT.of h);exact⟨its,r,p,z⟩
end L2
namespace L2
open PySem PySem.Spec PyProof.Rows TS
section
variable {X:Cx}{K:PySem.W.Frag}
noncomputable def rLeS:R2:=fun x y H Q=>∃i j,x=.str i/\y=.str j/\Q (.bl (!decide (j.cps.toList<i.cps.toList))) H
theorem zOz:OpR X (compareOp .LtE) rLeS:=by
 intro pins s σ H x y v u Q I rx ry h
 obtain⟨i,j,rfl,rfl,q⟩:=h
 obtain⟨t,rfl⟩:=rx
 obtain⟨t',rfl⟩:=ry
 exact P.le_str ⟨.bl _,H,I,rfl,q⟩
end
end L2
namespace L2
open PySem PySem.Spec PyProof.Rows TS
section
variable {X:Cx}{K:PySem.W.Frag}
theorem zRm {x:Str}{v:V}{u:Value}{pos:Pos}(hg:Gl X x) (hm:X.mg x=some u) (r:RelV v u) (hd:(x == ("__debug__":Str))=false:=by decide):SE X (.Name x pos) (tC v):=⟨zVf hg hm r hd⟩
variable {σ:St}{H:Hp}{Q:VK}
end
end L2
namespace DS
open PySem (Str)
inductive D where
 | non|bl (b:Bool)|int (i:Int)|str (x:Str)|ty (n:String)
 | tup (l:List D)|ktup (l:List D)|lst (l:List D)|klst (l:List D)|dct (t:Bool) (ks vs:List D)|st (l:List D)
 | ref (n:Nat)
noncomputable abbrev Store:=List D
noncomputable abbrev Env:=List (Option D)
structure Exn where
 cls:Str
 fs:List (Str × D)
inductive Rs (α:Type) where
 | ok (a:α) (S:Store)|ex (x:Exn) (S:Store)|bad
inductive SR where
 | nx (e:Env) (S:Store)|rt (d:D) (S:Store)|bk (e:Env) (S:Store)|ct (e:Env) (S:Store)|ex (x:Exn) (S:Store)|bad
noncomputable def Rs.bind {α β:Type}(r:Rs α) (k:α->Store->Rs β):Rs β:=match r with
 | .ok a S=>k a S
 | .ex x S=>.ex x S
 | .bad=>.bad
@[simp] theorem Rs.bind_ok {α β:Type}{a:α}{S:Store}{k:α->Store->Rs β}:(Rs.ok a S).bind k=k a S:=rfl
@[simp] theorem Rs.bind_ex {α β:Type}{x:Exn}{S:Store}{k:α->Store->Rs β}:(Rs.ex x S:Rs α).bind k=.ex x S:=rfl
@[simp] theorem Rs.bind_bad {α β:Type}{k:α->Store->Rs β}:(Rs.bad:Rs α).bind k=.bad:=rfl
noncomputable def Rs.then {α:Type}(r:Rs α) (k:α->Store->SR):SR:=match r with
 | .ok a S=>k a S
 | .ex x S=>.ex x S
 | .bad=>.bad
@[simp] theorem Rs.then_ok {α:Type}{a:α}{S:Store}{k:α->Store->SR}:(Rs.ok a S).then k=k a S:=rfl
@[simp] theorem Rs.then_ex {α:Type}{x:Exn}{S:Store}{k:α->Store->SR}:(Rs.ex x S:Rs α).then k=.ex x S:=rfl
@[simp] theorem Rs.then_bad {α:Type}{k:α->Store->SR}:(Rs.bad:Rs α).then k=.bad:=rfl
noncomputable def lift {α:Type}(o:Option α) (S:Store):Rs α:=match o with
 | some a=>.ok a S
 | none=>.bad
@[simp] theorem zA7 {α:Type}{a:α}{S:Store}:lift (some a) S=.ok a S:=rfl
@[simp] theorem zZ5 {α:Type}{S:Store}:lift (none:Option α) S=.bad:=rfl
noncomputable def zW1 {α:Type}(o:Option (α × Store)):Rs α:=match o with
 | some a=>.ok a.1 a.2
 | none=>.bad
@[simp] theorem zCe {α:Type}{a:α × Store}:zW1 (some a)=.ok a.1 a.2:=rfl
@[simp] theorem zX7 {α:Type}:zW1 (none:Option (α × Store))=.bad:=rfl
mutual
/-- all refs are below n -/
noncomputable def D.low (n:Nat):D->Bool
 | .ref m=>decide (m<n)
 | .tup l=>lowL n l
 | .lst l=>lowL n l
 | .ktup l=>lowL n l
 | .klst l=>lowL n l
 | .dct _ ks vs=>lowL n ks && lowL n vs
 | .st l=>lowL n l
 | .non=>true
 | .bl _=>true
 | .int _=>true
 | .str _=>true
 | .ty _=>true
noncomputable def lowL (n:Nat):List D->Bool
 | []=>true
 | d::r=>d.low n && lowL n r
end
mutual
/-- they may be compared: of one kind wherever == looks;no refs -/
noncomputable def D.cmp:D->D->Bool
 | .non,.non=>true
 | .bl _,.bl _=>true
 | .int _,.int _=>true
 | .str _,.str _=>true
 | .tup a,.tup b=>cmpL a b
 | .lst a,.lst b=>cmpL a b
 | _,_=>false
noncomputable def cmpL:List D->List D->Bool
 | a::r,b::t=>a.cmp b && cmpL r t
 | _,_=>true
end
noncomputable section
open Classical
noncomputable def look (S:Store):D->Option D
 | .ref n=>S[n]?
 | .ktup l=>some (.tup l)
 | .klst l=>some (.lst l)
 | d=>some d
noncomputable def items (S:Store) (d:D):Option (List D):=match look S d with
 | some (.tup l)=>some l
 | some (.lst l)=>some l
 | _=>none
noncomputable def litems (S:Store) (d:D):Option (List D):=match d with
 | .klst _=>none
 | d=>match look S d with
  | some (.lst l)=>some l
  | _=>none
noncomputable abbrev EM:=Env->Store->Rs D
noncomputable abbrev TM:=Env->Store->Rs Bool
noncomputable abbrev AM:=Env->Store->Rs (List D)
noncomputable abbrev SM:=Env->Store->SR
noncomputable abbrev GM:=Store->D->Env->Option Env
noncomputable abbrev Fn:=List D->Store->Rs D
noncomputable def eVar (i:Nat):EM:=fun env S=>match env[i]? with
 | some (some d)=>.ok d S
 | _=>.bad
noncomputable def eC (d:D):EM:=fun _ S=>.ok d S
noncomputable def eOp (g:Store->D->D->Option D) (a b:EM):EM:=fun env S=>(a env S).bind fun x S1=>(b env S1).bind fun y S2=>lift (g S2 x y) S2
noncomputable def eUn (g:Store->D->Option D) (a:EM):EM:=fun env S=>(a env S).bind fun x S1=>lift (g S1 x) S1
noncomputable def aNil:AM:=fun _ S=>.ok [] S
noncomputable def zA0 (a:EM) (r:AM):AM:=fun env S=>(a env S).bind fun x S1=>(r env S1).bind fun xs S2=>.ok (x::xs) S2
noncomputable def eTup (a:AM):EM:=fun env S=>(a env S).bind fun xs S1=>.ok (.tup xs) S1
noncomputable def eLst (a:AM):EM:=fun env S=>(a env S).bind fun xs S1=>.ok (.lst xs) S1
noncomputable def zSk (ks:List D) (a:AM):EM:=fun env S=>(a env (S++[.dct false [] []])).bind fun vs S1=>if S1[S.length]?=some (.dct false [] [])then .ok (.ref S.length) (S1.set S.length (.dct false ks vs))else .bad
noncomputable def eNew (a:EM):EM:=fun env S=>(a env S).bind fun x S1=>.ok (.ref S1.length) (S1++[x])
noncomputable def eCB (g:Store->List D->Option D) (a:AM):EM:=fun env S=>(a env S).bind fun xs S1=>lift (g S1 xs) S1
noncomputable def zAc (F:Fn) (a:AM):EM:=fun env S=>(a env S).bind fun xs S1=>F xs S1
noncomputable def tyD (S:Store) (d:D):Option String:=match look S d with
 | some (.str _)=>some "str"
 | some (.lst _)=>some "list"
 | some (.dct _ _ _)=>some "dict"
 | some (.tup _)=>some "tuple"
 | some (.int _)=>some "int"
 | some (.bl _)=>some "bool"
 | some .non=>some "NoneType"
 | some (.st _)=>some "set"
 | _=>none
noncomputable def eMt (T:String) (g:Store->D->List D->Option (D × Store)) (o:EM) (a:AM):EM:=fun env S=>(o env S).bind fun x S1=>if tyD S1 x=some T then(a env S1).bind fun xs S2=>zW1 (g S2 x xs)else .bad
noncomputable def asI:D->Option Int
 | .int i=>some i
 | _=>none
noncomputable def pNo:Env->Store->Rs (Option Int):=fun _ S=>.ok none S
noncomputable def pYes (a:EM):Env->Store->Rs (Option Int):=fun env S=>(a env S).bind fun x S1=>lift ((asI x).map some) S1
noncomputable def eSl (g:Store->D->Option Int->Option Int->Option D) (a:EM) (lo hi:Env->Store->Rs (Option Int)):EM:=fun env S=>
 (a env S).bind fun x S1=>(lo env S1).bind fun l S2=>(hi env S2).bind fun h S3=>lift (g S3 x l h) S3
noncomputable def asB:D->Option Bool
 | .bl b=>some b
 | _=>none
noncomputable def tB (a:EM):TM:=fun env S=>(a env S).bind fun x S1=>lift (asB x) S1
noncomputable def most:Nat:=2 ^ 24
noncomputable def truth (S:Store) (d:D):Option Bool:=match look S d with
 | some (.bl b)=>some b
 | some (.int i)=>some (decide (i≠0))
 | some (.str x)=>if x.length<=most then some (decide (x.length≠0))else none
 | some (.tup l)=>some (decide (l≠[]))
 | some (.lst l)=>some (decide (l≠[]))
 | some .non=>some false
 | _=>none
noncomputable def tTru (a:EM):TM:=fun env S=>(a env S).bind fun x S1=>lift (truth S1 x) S1
noncomputable def tAnd (a b:TM):TM:=fun env S=>(a env S).bind fun c S1=>if c=true then b env S1 else .ok false S1
noncomputable def tOr (a b:TM):TM:=fun env S=>(a env S).bind fun c S1=>if c=true then .ok true S1 else b env S1
noncomputable def tNot (a:TM):TM:=fun env S=>(a env S).bind fun c S1=>.ok (!c) S1
noncomputable def tYes:TM:=fun _ S=>.ok true S
noncomputable def eAnd (a b:EM):EM:=fun env S=>(a env S).bind fun x S1=>(lift (asB x) S1).bind fun c S1=>if c=true then b env S1 else .ok (.bl false) S1
noncomputable def eOr (a b:EM):EM:=fun env S=>(a env S).bind fun x S1=>(lift (asB x) S1).bind fun c S1=>if c=true then .ok (.bl true) S1 else b env S1
noncomputable def eNot (a:EM):EM:=fun env S=>(a env S).bind fun x S1=>(lift (asB x) S1).bind fun c S1=>.ok (.bl (!c)) S1
noncomputable def eIf (c:TM) (a b:EM):EM:=fun env S=>(c env S).bind fun k S1=>if k=true then a env S1 else b env S1
noncomputable def zHh (g g':Store->D->D->Option D) (a b c:EM):EM:=fun env S=>(a env S).bind fun x S1=>(b env S1).bind fun y S2=>(lift (g S2 x y) S2).bind fun z S3=>(lift (asB z) S3).bind fun k S3=>
 if k=true then(c env S3).bind fun w S4=>lift (g' S4 y w) S4 else .ok (.bl false) S3
structure Walk where
 its:List D
 gd:List (Nat × D)
noncomputable def gOk (S:Store) (gd:List (Nat × D)):Prop:=∀p∈gd,S[p.1]?=some p.2
noncomputable abbrev IM:=Env->Store->Rs Walk
noncomputable def gdOf (S:Store):D->List (Nat × D)
 | .ref n=>match S[n]? with
  | some d=>[(n,d)]
  | none=>[]
 | _=>[]
noncomputable def zDd (S:Store) (d:D):Option Walk:=match look S d with
 | some (.tup l)=>some ⟨l,gdOf S d⟩
 | some (.lst l)=>some ⟨l,gdOf S d⟩
 | _=>none
noncomputable def iVal (a:EM):IM:=fun env S=>(a env S).bind fun x S1=>lift (zDd S1 x) S1
noncomputable def fits62 (i:Int):Bool:=decide (-(2 ^ 62)<=i/\i<2 ^ 62)
noncomputable def zEs (i j:Int):List D:=(List.range (j-i).toNat).map fun(k:Nat)=>.int (i+k)
noncomputable def zEg:List D->Option Walk
 | [.int j]=>if fits62 j then some ⟨zEs 0 j,[]⟩else none
 | [.int i,.int j]=>if fits62 i && fits62 j then some ⟨zEs i j,[]⟩else none
 | _=>none
noncomputable def zAw (a:AM):IM:=fun env S=>(a env S).bind fun xs S1=>lift (zEg xs) S1
noncomputable def gName (i:Nat):GM:=fun _ d env=>some (env.set i (some d))
noncomputable def gAll:List GM->Store->List D->Env->Option Env
 | [],_,[],env=>some env
 | g::gs,S,d::ds,env=>match g S d env with
  | some env'=>gAll gs S ds env'
  | none=>none
 | _,_,_,_=>none
noncomputable def gTup (gs:List GM):GM:=fun S d env=>match items S d with
 | some l=>gAll gs S l env
 | none=>none
noncomputable def zDc (gd:List (Nat × D)) (g:GM) (c:TM) (e:EM):Nat->List D->Env->Store->Rs (List D)
 | _,[],_,S=>if gOk S gd then .ok [] S else .bad
 | k,d::r,env,S=>if gOk S gd/\k<most then(match g S d env with
  | some env'=>(c env' S).bind fun b S1=>if b=true then(e env' S1).bind fun v S2=>(zDc gd g c e (k+1) r env' S2).bind fun vs S3=>.ok (v::vs) S3 else zDc gd g c e k r env' S1
  | none=>.bad)else .bad
noncomputable def compEnv (own:Nat) (ix:List Nat) (env:Env):Env:=List.replicate own none++ix.map fun i=>(env[i]?).join
noncomputable def zAt (own:Nat) (ix:List Nat) (i:IM) (g:GM) (c:TM) (e:EM):EM:=fun env S=>
 (i env S).bind fun w S1=>(zDc w.gd g c e 0 w.its (compEnv own ix env) S1).bind fun vs S2=>.ok (.lst vs) S2
noncomputable def zBa:SM:=fun env S=>.nx env S
noncomputable def sSeq (a b:SM):SM:=fun env S=>match a env S with
 | .nx e S1=>b e S1
 | r=>r
noncomputable def sSet (i:Nat) (e:EM):SM:=fun env S=>(e env S).then fun d S1=>.nx (env.set i (some d)) S1
noncomputable def sUnp (g:GM) (e:EM):SM:=fun env S=>(e env S).then fun d S1=>match g S1 d env with
 | some env'=>.nx env' S1
 | none=>.bad
noncomputable def zDh (e:EM):SM:=fun env S=>(e env S).then fun _ S1=>.nx env S1
noncomputable def sRet (e:EM):SM:=fun env S=>(e env S).then fun d S1=>.rt d S1
noncomputable def yAb:SM:=fun _ S=>.rt .non S
noncomputable def sIf (c:TM) (a b:SM):SM:=fun env S=>(c env S).then fun k S1=>if k=true then a env S1 else b env S1
noncomputable def zO3:List Nat->List D->Env->Option Env
 | [],[],env=>some env
 | i::is,d::ds,env=>zO3 is ds (env.set i (some d))
 | _,_,_=>none
noncomputable def sPar (is:List Nat) (a:AM):SM:=fun env S=>(a env S).then fun ds S1=>match zO3 is ds env with
 | some env'=>.nx env' S1
 | none=>.bad
noncomputable def sPut (g:Store->D->D->D->Option Store) (o i v:EM):SM:=fun env S=>(v env S).then fun y S1=>(o env S1).then fun x S2=>(i env S2).then fun k S3=>match g S3 x k y with
 | some S4=>.nx env S4
 | none=>.bad
noncomputable def forL (gd:List (Nat × D)) (g:GM) (b:SM):List D->Env->Store->SR
 | [],env,S=>if gOk S gd then .nx env S else .bad
 | d::r,env,S=>if gOk S gd then(match g S d env with
  | some env'=>(match b env' S with
   | .nx e S1=>forL gd g b r e S1
   | .ct e S1=>forL gd g b r e S1
   | .bk e S1=>.nx e S1
   | q=>q)
  | none=>.bad)else .bad
noncomputable def sFor (i:IM) (g:GM) (b:SM):SM:=fun env S=>(i env S).then fun w S1=>forL w.gd g b w.its env S1
noncomputable def zAr (c:TM) (b:SM):Nat->Env->Store->SR
 | 0,_,_=>.bad
 | n+1,env,S=>(c env S).then fun k S1=>if k=true then(match b env S1 with
   | .nx e S2=>zAr c b n e S2
   | .ct e S2=>zAr c b n e S2
   | .bk e S2=>.nx e S2
   | q=>q)else .nx env S1
noncomputable def zBo (c:TM) (b:SM):SM:=fun env S=>if h:∃n,zAr c b n env S≠.bad then zAr c b (choose h) env S else .bad
theorem zCy {c:TM}{b:SM}:∀{n:Nat}{env:Env}{S:Store},zAr c b n env S≠.bad->∀m,n<=m->zAr c b m env S=zAr c b n env S
 | 0,_,_,h,_,_=>absurd rfl h
 | n+1,env,S,h,m,hm=>by
  obtain⟨m,rfl⟩:∃k,m=k+1:=⟨m-1,by nofun⟩
  unfold zAr at h ⊢
  cases hc:c env S with
  | ok k S1=>
   rw[hc]at h
   simp only[Rs.then_ok]at h ⊢
   by_cases hk:k=true
   ·rw[xc hk]at h ⊢
    rw[xc hk]
    cases hb:b env S1 with
    | nx e S2=>rw[hb]at h;exact zCy h m (by nofun)
    | ct e S2=>rw[hb]at h;exact zCy h m (by nofun)
    | _=>rfl
   ·rw[xf hk,xf hk]
  | ex x S1=>rfl
  | bad=>rfl
theorem zDg {c:TM}{b:SM}{n:Nat}{env:Env}{S:Store}(h:zAr c b n env S≠.bad):zBo c b env S=zAr c b n env S:=by
 unfold zBo
 have hx:∃n,zAr c b n env S≠.bad:=⟨n,h⟩
 rw[dif_pos hx]
 have h1:=choose_spec hx
 rw[<- zCy h1 (max (choose hx) n) (Nat.le_max_left _ _),<- zCy h (max (choose hx) n) (Nat.le_max_right _ _)]
noncomputable def keeps (n:Nat):Store->Store->Prop
 | [],_=>True
 | a::r,b::t=>(a=b\/b.low n=true)/\keeps n r t
 | _::_,[]=>False
noncomputable def fin (S:Store) (d:D) (S':Store):Rs D:=
 if keeps S.length S S' then
  if d.low S.length=true then .ok d (S'.take S.length)
  else match d with
   | .ref n=>match S'[n]? with
    | some c=>if c.low S.length=true then .ok c (S'.take S.length)else .ok d S'
    | none=>.bad
   | _=>.ok d S'
 else .ok d S'
noncomputable def zB0 (np nl:Nat) (b:SM):Fn:=fun ds S=>if ds.length=np then
  (match b (ds.map some++List.replicate (nl-np) none) S with
  | .nx _ S'=>fin S .non S'
  | .rt d S'=>fin S d S'
  | .ex x S'=>.ex x S'
  | _=>.bad)
 else .bad
noncomputable def zIk (np nl:Nat) (b:SM):Fn:=fun ds S=>if ds.length=np then
  (match b (ds.map some++List.replicate (nl-np) none) S with
  | .nx _ S'=>.ok .non S'
  | .rt d S'=>.ok d S'
  | .ex x S'=>.ex x S'
  | _=>.bad)
 else .bad
end
end DS
namespace L2
open PySem PySem.Spec PyProof.Rows
open DS (D Store Exn Rs SR)
noncomputable abbrev Js:=List Addr
noncomputable def TAt (K:PySem.W.Frag) (J:Js) (H:Hp) (a:Addr) (xs:List V):Prop:=H a=some (.tup xs)/\a ∉ J
noncomputable def KAt (K:PySem.W.Frag) (a:Addr) (xs:List V):Prop:=∃(o:Obj) (its:Array Value) (n:Nat),K.lookup a=some o/\o.cls=.type "tuple"/\o.data=.seq its n/\its.size<=sizeLine/\Vals xs its.toList
noncomputable def LAt (K:PySem.W.Frag) (J:Js) (H:Hp) (a:Addr) (xs:List V):Prop:=H a=some (.lst xs)/\a ∉ J
noncomputable def SAt (K:PySem.W.Frag) (J:Js) (H:Hp) (a:Addr) (xs:List V):Prop:=
 (Rd H a (.lst xs)/\a ∉ J)\/∃(o:Obj) (its:Array Value) (n:Nat),K.lookup a=some o/\o.cls=.type "list"/\o.dict=none/\o.data=.seq its n/\its.size<=sizeLine/\Vals xs its.toList
noncomputable def keyD:Key->D
 | .inl i=>.int i
 | .inr x=>.str x
noncomputable def yA7 (k:List Key):D:=.tup (k.map keyD)
noncomputable def DOb (o:HO) (t:Bool) (ks:List D) (xs:List V):Prop:=
 (t=false/\∃kvs:List (Key × V),o=.dK kvs/\ks=kvs.map (fun p=>keyD p.1)/\xs=kvs.map (·.2)) \/
  (t=true/\∃kvs:List (List Key × V),o=.dT kvs/\ks=kvs.map (fun p=>yA7 p.1)/\xs=kvs.map (·.2))
mutual
noncomputable def Rep (K:PySem.W.Frag) (J:Js) (H:Hp):D->V->Prop
 | .non,v=>v=.non
 | .bl b,v=>v=.bl b
 | .int i,v=>v=.int i
 | .str x,v=>v=.str x
 | .ty n,v=>v=.ty n
 | .tup ds,v=>∃a xs,v=.ref a/\TAt K J H a xs/\RepL K J H ds xs
 | .lst ds,v=>∃a xs,v=.ref a/\LAt K J H a xs/\RepL K J H ds xs
 | .ktup ds,v=>∃a xs,v=.ref a/\KAt K a xs/\RepL K J H ds xs
 | .klst ds,v=>∃a xs,v=.ref a/\SAt K J H a xs/\RepL K J H ds xs
 | .dct t ks vs,v=>∃a o xs,v=.ref a/\a ∉ J/\H a=some o/\DOb o t ks xs/\RepL K J H vs xs
 | .st _,_=>False
 | .ref n,v=>∃a,J[n]?=some a/\v=.ref a
noncomputable def RepL (K:PySem.W.Frag) (J:Js) (H:Hp):List D->List V->Prop
 | [],xs=>xs=[]
 | d::ds,xs=>∃x r,xs=x::r/\Rep K J H d x/\RepL K J H ds r
end
noncomputable def ObD (K:PySem.W.Frag) (J:Js) (H:Hp):D->HO->Prop
 | .lst ds,o=>∃xs,o=.lst xs/\RepL K J H ds xs
 | .dct t ks vs,o=>∃xs,DOb o t ks xs/\RepL K J H vs xs
 | _,_=>False
noncomputable def RepO (K:PySem.W.Frag) (J:Js) (H:Hp) (d:D) (a:Addr):Prop:=∃o,H a=some o/\ObD K J H d o
structure AbS (K:PySem.W.Frag) (J:Js) (S:Store) (H:Hp):Prop where
 len:J.length=S.length
 nd:J.Nodup
 ob:∀(i:Nat) (a:Addr) (d:D),J[i]?=some a->S[i]?=some d->RepO K J H d a
structure Grow (J:Js) (H:Hp) (J':Js) (H':Hp):Prop where
 pre:∀(i:Nat) (a:Addr),J[i]?=some a->J'[i]?=some a
 new:∀a∈J',a ∉ J->H a=none
 keep:∀b o,b ∉ J->H b=some o->H' b=some o
 dom:∀b,H' b=none->H b=none
structure RepE (K:PySem.W.Frag) (J:Js) (H:Hp) (env:DS.Env) (σ:St):Prop where
 len:env.length=σ.length
 get:∀(i:Nat) (d:D),env[i]?=some (some d)->∃v,σ[i]?=some (some v)/\Rep K J H d v
section
variable {K:PySem.W.Frag}{J J' J1 J2:Js}{H H' H1 H2:Hp}{a:Addr}{d:D}{v:V}{S S':Store}{env:DS.Env}{σ:St}
theorem Grow.refl:Grow J H J H:=⟨fun _ _ h=>h,fun _ h n=>absurd h n,fun _ _ _ h=>h,fun _ h=>h⟩
theorem Grow.trans (g:Grow J H J1 H1) (k:Grow J1 H1 J2 H2):Grow J H J2 H2 where
 pre:=fun i a h=>k.pre i a (g.pre i a h)
 new:=fun a h n=>by
  by_cases z:a∈J1
  ·exact g.new a z n
  ·exact g.dom a (k.new a h z)
 keep:=fun b o n h=>k.keep b o (fun z=>by rw[g.new b z n]at h;cases h) (g.keep b o n h)
 dom:=fun b h=>g.dom b (k.dom b h)
theorem Grow.out {o:HO}(g:Grow J H J' H') (n:a ∉ J) (h:H a=some o):a ∉ J':=fun z=>by rw[g.new a z n]at h;cases h
theorem Grow.rd {u:HO}(g:Grow J H J' H') (n:a ∉ J) (h:Rd H a u):Rd H' a u/\a ∉ J':=by
 rcases h with h|⟨o,h⟩
 ·exact⟨.inl (g.keep _ _ n h),g.out n h⟩
 ·exact⟨.inr ⟨o,g.keep _ _ n h⟩,g.out n h⟩
theorem TAt.sq {xs:List V}(h:TAt K J H a xs):SqT K H a xs:=.inl (.inl h.1)
theorem KAt.sq {xs:List V}(h:KAt K a xs):SqT K H a xs:=.inr h
theorem LAt.sq {xs:List V}(h:LAt K J H a xs):SqL K H a xs:=.inl (.inl h.1)
theorem SAt.sq {xs:List V}(h:SAt K J H a xs):SqL K H a xs:=by
 rcases h with h|h
 ·exact .inl h.1
 ·exact .inr h
theorem SAt.grow {xs:List V}(g:Grow J H J' H') (h:SAt K J H a xs):SAt K J' H' a xs:=by
 rcases h with h|h
 ·exact .inl (g.rd h.2 h.1)
 ·exact .inr h
theorem TAt.grow {xs:List V}(g:Grow J H J' H') (h:TAt K J H a xs):TAt K J' H' a xs:=⟨g.keep _ _ h.2 h.1,g.out h.2 h.1⟩
theorem LAt.grow {xs:List V}(g:Grow J H J' H') (h:LAt K J H a xs):LAt K J' H' a xs:=⟨g.keep _ _ h.2 h.1,g.out h.2 h.1⟩
mutual
theorem Rep.grow (g:Grow J H J' H'):∀(d:D) (v:V),Rep K J H d v->Rep K J' H' d v
 | .non,_,h=>h
 | .bl _,_,h=>h
 | .int _,_,h=>h
 | .str _,_,h=>h
 | .ty _,_,h=>h
 | .tup ds,v,⟨a,xs,e,t,r⟩=>⟨a,xs,e,t.grow g,RepL.grow g ds xs r⟩
 | .lst ds,v,⟨a,xs,e,t,r⟩=>⟨a,xs,e,t.grow g,RepL.grow g ds xs r⟩
 | .ktup ds,v,⟨a,xs,e,t,r⟩=>⟨a,xs,e,t,RepL.grow g ds xs r⟩
 | .klst ds,v,⟨a,xs,e,t,r⟩=>⟨a,xs,e,t.grow g,RepL.grow g ds xs r⟩
 | .dct _ ks vs,v,⟨a,o,xs,e,n,h,t,r⟩=>⟨a,o,xs,e,g.out n h,g.keep _ _ n h,t,RepL.grow g vs xs r⟩
 | .st _,_,h=>h
 | .ref n,v,⟨a,e,h⟩=>⟨a,g.pre n a e,h⟩
theorem RepL.grow (g:Grow J H J' H'):∀(ds:List D) (xs:List V),RepL K J H ds xs->RepL K J' H' ds xs
 | [],_,h=>h
 | d::ds,xs,⟨x,r,e,h,t⟩=>⟨x,r,e,Rep.grow g d x h,RepL.grow g ds r t⟩
end
theorem RepE.grow (g:Grow J H J' H') (h:RepE K J H env σ):RepE K J' H' env σ:=⟨h.len,fun i d e=>by
 obtain⟨v,q,r⟩:=h.get i d e
 exact⟨v,q,Rep.grow g d v r⟩⟩
theorem RepL.length:∀{ds:List D}{xs:List V},RepL K J H ds xs->ds.length=xs.length
 | [],_,h=>by cases h;rfl
 | _::ds,_,⟨x,r,e,_,t⟩=>by subst e;simp[RepL.length t]
theorem RepL.get:∀{ds:List D}{xs:List V}{i:Nat}{d:D},RepL K J H ds xs->ds[i]?=some d->∃x,xs[i]?=some x/\Rep K J H d x
 | [],_,_,_,_,e=>by simp at e
 | d::ds,_,0,_,⟨x,r,e,h,t⟩,q=>by subst e;simp at q;subst q;exact⟨x,rfl,h⟩
 | _::ds,_,i+1,d,⟨x,r,e,_,t⟩,q=>by subst e;exact RepL.get (i:=i) t (by simpa using q)
theorem RepL.append:∀{ds es:List D}{xs ys:List V},RepL K J H ds xs->RepL K J H es ys->RepL K J H (ds++es) (xs++ys)
 | [],_,_,_,h,k=>by cases h;exact k
 | d::ds,_,_,_,⟨x,r,e,h,t⟩,k=>by subst e;exact⟨x,_,rfl,h,t.append k⟩
theorem RepL.snoc {ds:List D}{xs:List V}{x:V}(h:RepL K J H ds xs) (r:Rep K J H d x):RepL K J H (ds++[d]) (xs++[x]):=h.append ⟨x,[],rfl,r,rfl⟩
theorem RepL.take:∀{ds:List D}{xs:List V}(n:Nat),RepL K J H ds xs->RepL K J H (ds.take n) (xs.take n)
 | _,_,0,_=>rfl
 | [],_,_+1,h=>by cases h;rfl
 | d::ds,_,n+1,⟨x,r,e,h,t⟩=>by subst e;exact⟨x,_,rfl,h,t.take n⟩
theorem RepL.drop:∀{ds:List D}{xs:List V}(n:Nat),RepL K J H ds xs->RepL K J H (ds.drop n) (xs.drop n)
 | _,_,0,h=>h
 | [],_,_+1,h=>by cases h;rfl
 | d::ds,_,n+1,⟨x,r,e,h,t⟩=>by subst e;exact t.drop n
theorem RepL.reverse:∀{ds:List D}{xs:List V},RepL K J H ds xs->RepL K J H ds.reverse xs.reverse
 | [],_,h=>by cases h;rfl
 | d::ds,_,⟨x,r,e,h,t⟩=>by subst e;rw[u9,u9];exact t.reverse.snoc h
theorem RepL.dropLast {ds:List D}{xs:List V}(h:RepL K J H ds xs):RepL K J H ds.dropLast xs.dropLast:=by
 rw[List.dropLast_eq_take,List.dropLast_eq_take,h.length];exact h.take _
theorem RepL.ints:∀{ns:List Int},RepL K J H (ns.map D.int) (ns.map V.int)
 | []=>rfl
 | n::ns=>⟨_,_,rfl,rfl,RepL.ints⟩
theorem AbS.lt (h:AbS K J S H) {n:Nat}(e:J[n]?=some a):n<S.length:=by rw[<- h.len];exact(xx.mp e).1
theorem AbS.at (h:AbS K J S H) {n:Nat}(e:J[n]?=some a):∃d,S[n]?=some d/\RepO K J H d a:=
 ⟨S[n]'(h.lt e),xp (h.lt e),h.ob n a _ e (xp (h.lt e))⟩
theorem AbS.mem (h:AbS K J S H) (m:a∈J):∃o,H a=some o:=by
 obtain⟨i,e⟩:=uL.mp m
 obtain⟨d,_,o,r,_⟩:=h.at e
 exact⟨o,r⟩
theorem AbS.out (h:AbS K J S H) (n:H a=none):a ∉ J:=fun m=>by
 obtain⟨o,e⟩:=h.mem m
 rw[n]at e;cases e
theorem ObD.imp {o:HO}(rl:∀ds xs,RepL K J H ds xs->RepL K J' H' ds xs):∀{d:D},ObD K J H d o->ObD K J' H' d o
 | .lst ds,⟨xs,e,r⟩=>⟨xs,e,rl _ _ r⟩
 | .dct _ ks vs,⟨xs,e,r⟩=>⟨xs,e,rl _ _ r⟩
 | .non,h=>False.elim h
 | .bl _,h=>False.elim h
 | .int _,h=>False.elim h
 | .str _,h=>False.elim h
 | .ty _,h=>False.elim h
 | .tup _,h=>False.elim h
 | .ktup _,h=>False.elim h
 | .klst _,h=>False.elim h
 | .st _,h=>False.elim h
 | .ref _,h=>False.elim h
theorem ObD.grow {o:HO}(g:Grow J H J' H') (h:ObD K J H d o):ObD K J' H' d o:=h.imp (RepL.grow g)
theorem Grow.of (k:∀b o,H b=some o->H' b=some o):Grow J H J H':=⟨fun _ _ h=>h,fun _ h n=>absurd h n,fun b o _ h=>k b o h,fun b h=>by
 cases e:H b with
 | none=>rfl
 | some o=>rw[k b o e]at h;cases h⟩
theorem AbS.more (h:AbS K J S H) (k:∀b o,H b=some o->H' b=some o):AbS K J S H':=
 ⟨h.len,h.nd,fun i a d e q=>by
  obtain⟨o,eo,r⟩:=h.ob i a d e q
  exact⟨o,k _ _ eo,r.grow (.of k)⟩⟩
theorem zG0 {p:Addr}{o:HO}(n:H p=none):∀b u,H b=some u->upd H p o b=some u:=fun b u e=>by rw[zAm (zAo e n)];exact e
theorem AbS.push {p:Addr}{o:HO}(h:AbS K J S H) (n:H p=none):AbS K J S (upd H p o):=h.more (zG0 n)
theorem Grow.push {p:Addr}{o:HO}(n:H p=none):Grow J H J (upd H p o):=.of (zG0 n)
theorem Grow.name {p:Addr}{o:HO}(n:H p=none):Grow J H (J++[p]) (upd H p o) where
 pre:=fun i a h=>by rw[xX (xx.mp h).1];exact h
 new:=fun a h z=>by
  rcases vc.mp h with h|h
  ·exact absurd h z
  ·rw[xV.mp h];exact n
 keep:=fun b u _ e=>zG0 n b u e
 dom:=(Grow.push (J:=J) n).dom
theorem AbS.name {p:Addr}{o:HO}(h:AbS K J S H) (n:H p=none) (r:ObD K J H d o):AbS K (J++[p]) (S++[d]) (upd H p o):=by
 have hp:p ∉ J:=h.out n
 have g:Grow J H (J++[p]) (upd H p o):=.name n
 refine⟨by simp[h.len],?_,fun i a d' e q=>?_⟩
 ·refine List.nodup_append.mpr ⟨h.nd,(vX.mpr ⟨by simp,List.nodup_nil⟩),fun x hx y hy=>?_⟩
  rintro rfl
  exact hp (by rw[<- xV.mp hy];exact hx)
 ·by_cases hi:i<J.length
  ·rw[xX hi]at e
   rw[xX (by rw[<- h.len];exact hi)]at q
   obtain⟨o',eo,r'⟩:=h.ob i a d' e q
   exact⟨o',zG0 n _ _ eo,r'.grow g⟩
  ·have hl:i=J.length:=by
    have:=(xx.mp e).1
    simp at this
    lia
   subst hl
   rw[vq (xh _)]at e
   rw[vq (by rw[h.len];exact xh _),h.len]at q
   simp at e q
   subst e q
   exact⟨o,zAu,r.grow g⟩
theorem Grow.write {n:Nat}{o:HO}(e:J[n]?=some a):Grow J H J (upd H a o) where
 pre:=fun _ _ h=>h
 new:=fun b h z=>absurd h z
 keep:=fun b u z h=>by rw[zAm (fun q=>z (by rw[q];exact xU e))];exact h
 dom:=fun b h=>by
  by_cases q:b=a
  ·subst q;rw[zAu]at h;cases h
  ·rw[zAm q]at h;exact h
theorem AbS.write {n:Nat}{o:HO}(h:AbS K J S H) (e:J[n]?=some a) (r:ObD K J H d o):AbS K J (S.set n d) (upd H a o):=by
 have g:Grow J H J (upd H a o):=.write e
 refine⟨by simp[h.len],h.nd,fun i b d' ei q=>?_⟩
 by_cases hi:i=n
 ·subst hi
  rw[e]at ei;cases ei
  rw[vo (h.lt e)]at q
  cases q
  exact⟨o,zAu,r.grow g⟩
 ·rw[xI (xo hi)]at q
  obtain⟨o',eo,r'⟩:=h.ob i b d' ei q
  have hb:b≠a:=fun z=>by
   subst z
   exact hi ((List.getElem?_inj (xx.mp ei).1 h.nd).mp (ei.trans e.symm))
  exact⟨o',by rw[zAm hb];exact eo,r'.grow g⟩
theorem lowL_iff {n:Nat}:∀{l:List D},DS.lowL n l=true <-> ∀d∈l,d.low n=true
 | []=>⟨(fun _ _ h=>nomatch h),fun _=>rfl⟩
 | d::r=>by
  show(d.low n && DS.lowL n r)=true <-> _
  rw[xM,lowL_iff (l:=r)]
  simp
theorem zLq (n:Nat) (k:Key):(keyD k).low n=true:=by cases k <;> rfl
theorem DOb.low {o:HO}{t:Bool}{ks:List D}{xs:List V}{n:Nat}(h:DOb o t ks xs):DS.lowL n ks=true:=by
 rcases h with⟨_,kvs,_,rfl,_⟩|⟨_,kvs,_,rfl,_⟩
 ·exact lowL_iff.mpr fun d hd=>by obtain⟨p,_,rfl⟩:=xk.mp hd;exact zLq n p.1
 ·exact lowL_iff.mpr fun d hd=>by
   obtain⟨p,_,rfl⟩:=xk.mp hd
   show DS.lowL n (p.1.map keyD)=true
   exact lowL_iff.mpr fun d hd=>by obtain⟨q,_,rfl⟩:=xk.mp hd;exact zLq n q
mutual
theorem Rep.low:∀(d:D) (v:V),Rep K J H d v->d.low J.length=true
 | .non,_,_=>rfl
 | .bl _,_,_=>rfl
 | .int _,_,_=>rfl
 | .str _,_,_=>rfl
 | .ty _,_,_=>rfl
 | .tup ds,v,⟨a,xs,e,t,r⟩=>RepL.low ds xs r
 | .lst ds,v,⟨a,xs,e,t,r⟩=>RepL.low ds xs r
 | .ktup ds,v,⟨a,xs,e,t,r⟩=>RepL.low ds xs r
 | .klst ds,v,⟨a,xs,e,t,r⟩=>RepL.low ds xs r
 | .dct _ ks vs,v,⟨a,o,xs,e,n,h,t,r⟩=>by
  show(DS.lowL J.length ks && DS.lowL J.length vs)=true
  rw[RepL.low vs xs r,Bool.and_true]
  exact DOb.low t
 | .st _,_,h=>False.elim h
 | .ref n,v,⟨a,e,h⟩=>xw (xx.mp e).1
theorem RepL.low:∀(ds:List D) (xs:List V),RepL K J H ds xs->DS.lowL J.length ds=true
 | [],_,_=>rfl
 | d::ds,xs,⟨x,r,e,h,t⟩=>by
  show(d.low J.length && DS.lowL J.length ds)=true
  rw[Rep.low d x h,RepL.low ds r t];rfl
end
theorem ObD.low {o:HO}:∀{d:D},ObD K J H d o->d.low J.length=true
 | .lst ds,⟨xs,_,r⟩=>RepL.low ds xs r
 | .dct _ ks vs,⟨xs,t,r⟩=>by
  show(DS.lowL J.length ks && DS.lowL J.length vs)=true
  rw[RepL.low vs xs r,Bool.and_true]
  exact DOb.low t
 | .non,h=>False.elim h
 | .bl _,h=>False.elim h
 | .int _,h=>False.elim h
 | .str _,h=>False.elim h
 | .ty _,h=>False.elim h
 | .tup _,h=>False.elim h
 | .ktup _,h=>False.elim h
 | .klst _,h=>False.elim h
 | .st _,h=>False.elim h
 | .ref _,h=>False.elim h
theorem zE1 {n:Nat}(h:a ∉ J):a ∉ J.take n:=fun z=>h (List.mem_of_mem_take z)
mutual
theorem Rep.cut (n:Nat):∀(d:D) (v:V),d.low n=true->Rep K J H d v->Rep K (J.take n) H d v
 | .non,_,_,h=>h
 | .bl _,_,_,h=>h
 | .int _,_,_,h=>h
 | .str _,_,_,h=>h
 | .ty _,_,_,h=>h
 | .tup ds,v,l,⟨a,xs,e,t,r⟩=>⟨a,xs,e,⟨t.1,zE1 t.2⟩,RepL.cut n ds xs l r⟩
 | .ktup ds,v,l,⟨a,xs,e,t,r⟩=>⟨a,xs,e,t,RepL.cut n ds xs l r⟩
 | .klst ds,v,l,⟨a,xs,e,t,r⟩=>⟨a,xs,e,by
   rcases t with t|t
   ·exact .inl ⟨t.1,zE1 t.2⟩
   ·exact .inr t,RepL.cut n ds xs l r⟩
 | .lst ds,v,l,⟨a,xs,e,t,r⟩=>⟨a,xs,e,⟨t.1,zE1 t.2⟩,RepL.cut n ds xs l r⟩
 | .dct _ ks vs,v,l,⟨a,o,xs,e,q,h,t,r⟩=>⟨a,o,xs,e,zE1 q,h,t,RepL.cut n vs xs (by
   have l:(DS.lowL n ks && DS.lowL n vs)=true:=l
   rw[xM]at l
   exact l.2) r⟩
 | .st _,_,_,h=>h
 | .ref m,v,l,⟨a,e,h⟩=>⟨a,by rw[ub (of_decide_eq_true l)];exact e,h⟩
theorem RepL.cut (n:Nat):∀(ds:List D) (xs:List V),DS.lowL n ds=true->RepL K J H ds xs->RepL K (J.take n) H ds xs
 | [],_,_,h=>h
 | d::ds,xs,l,⟨x,r,e,h,t⟩=>by
  have l:(d.low n && DS.lowL n ds)=true:=l
  rw[xM]at l
  exact⟨x,r,e,Rep.cut n d x l.1 h,RepL.cut n ds r l.2 t⟩
end
theorem ObD.cut {n:Nat}{o:HO}:∀{d:D},d.low n=true->ObD K J H d o->ObD K (J.take n) H d o
 | .lst ds,l,⟨xs,e,r⟩=>⟨xs,e,RepL.cut n ds xs l r⟩
 | .dct _ ks vs,l,⟨xs,t,r⟩=>⟨xs,t,RepL.cut n vs xs (by
   have l:(DS.lowL n ks && DS.lowL n vs)=true:=l
   rw[xM]at l
   exact l.2) r⟩
 | .non,_,h=>False.elim h
 | .bl _,_,h=>False.elim h
 | .int _,_,h=>False.elim h
 | .str _,_,h=>False.elim h
 | .ty _,_,h=>False.elim h
 | .tup _,_,h=>False.elim h
 | .ktup _,_,h=>False.elim h
 | .klst _,_,h=>False.elim h
 | .st _,_,h=>False.elim h
 | .ref _,_,h=>False.elim h
theorem zGf {n:Nat}:∀{S S':Store},DS.keeps n S S'->∀i,i<S.length->∃b,S'[i]?=some b/\(S[i]?=some b\/b.low n=true)
 | [],_,_,i,hi=>by simp at hi
 | a::r,[],h,_,_=>False.elim h
 | a::r,b::t,h,0,_=>⟨b,rfl,by
   rcases h.1 with e|e
   ·subst e;exact .inl rfl
   ·exact .inr e⟩
 | a::r,b::t,h,i+1,hi=>by simpa using zGf h.2 i (by simpa using hi)
theorem Grow.take (h:AbS K J S H) (g:Grow J H J' H'):J'.take S.length=J:=by
 refine List.ext_getElem? fun i=>?_
 by_cases hi:i<S.length
 ·rw[ub hi]
  have hj:i<J.length:=by rw[h.len];exact hi
  rw[xp hj]
  exact g.pre i _ (xp hj)
 ·rw[vK (by rw[vH];lia),vK (by rw[h.len];lia)]
theorem Grow.cut (g:Grow J H J' H'):Grow J H J H':=⟨fun _ _ h=>h,fun _ h n=>absurd h n,g.keep,g.dom⟩
theorem AbS.cut (h:AbS K J S H) (g:Grow J H J' H') (h':AbS K J' S' H') (k:DS.keeps S.length S S'):AbS K J (S'.take S.length) H':=by
 have e:=g.take h
 refine⟨?_,h.nd,fun i a d ei q=>?_⟩
 ·have l:∀i,i<S.length->i<S'.length:=fun i hi=>by
   obtain⟨b,eb,_⟩:=zGf k i hi
   exact(xx.mp eb).1
  rw[h.len,vH]
  by_cases z:S.length=0
  ·lia
  ·have:=l (S.length-1) (by nofun)
   lia
 ·have hi:=h.lt ei
  rw[ub hi]at q
  obtain⟨b,eb,lo⟩:=zGf k i hi
  rw[q]at eb;cases eb
  obtain⟨o,eo,r⟩:=h'.ob i a d (g.pre i a ei) q
  have low:d.low S.length=true:=by
   rcases lo with lo|lo
   ·obtain⟨o',_,r'⟩:=h.ob i a d ei lo
    have:=r'.low
    rw[h.len]at this
    exact this
   ·exact lo
  have:=r.cut low
  rw[e]at this
  exact⟨o,eo,this⟩
theorem zZq {d2:D}{S2:Store}(h:AbS K J S H) (g:Grow J H J' H') (h':AbS K J' S' H') (r:Rep K J' H' d v) (e:DS.fin S d S'=.ok d2 S2):∃J2,AbS K J2 S2 H'/\Grow J H J2 H'/\Rep K J2 H' d2 v:=by
 have ek:=g.take h
 unfold DS.fin at e
 by_cases k:DS.keeps S.length S S'
 ·rw[xc k]at e
  by_cases l:d.low S.length=true
  ·rw[xc l]at e
   cases e
   refine⟨J,h.cut g h' k,g.cut,?_⟩
   have:=Rep.cut _ _ _ l r
   rw[ek]at this
   exact this
  ·rw[xf l]at e
   cases d with
   | ref n=>
    obtain⟨a,ea,rfl⟩:=r
    obtain⟨c,ec,o,eo,rc⟩:=h'.at ea
    simp only[ec]at e
    by_cases lc:c.low S.length=true
    ·rw[xc lc]at e
     cases e
     refine⟨J,h.cut g h' k,g.cut,?_⟩
     have ha:a ∉ J:=fun z=>by
      obtain⟨i,ei⟩:=uL.mp z
      have hi:=h.lt ei
      have e2:=g.pre i a ei
      have:i=n:=(List.getElem?_inj (xx.mp e2).1 h'.nd).mp (e2.trans ea.symm)
      subst this
      exact l (xw hi)
     have rc2:=rc.cut lc
     rw[ek]at rc2
     cases d2 with
     | lst ds=>obtain⟨xs,rfl,rl⟩:=rc2;exact⟨a,xs,rfl,⟨eo,ha⟩,rl⟩
     | dct _ ks vs=>obtain⟨xs,t,rl⟩:=rc2;exact⟨a,o,xs,rfl,ha,eo,t,rl⟩
     | _=>exact False.elim rc2
    ·rw[xf lc]at e
     cases e
     exact⟨J',h',g,a,ea,rfl⟩
   | _=>cases e;exact⟨J',h',g,r⟩
 ·rw[xf k]at e
  cases e
  exact⟨J',h',g,r⟩
end
end L2
namespace L2
open PySem PySem.Spec PyProof.Rows
open DS (D Store Exn Rs SR)
noncomputable abbrev XE:=Exn->Store->Js->Hp->Prop
noncomputable def XE0:XE:=fun _ _ _ _=>False
noncomputable def Post {α:Type}(K:PySem.W.Frag) (E:XE) (J:Js) (H:Hp) (r:Rs α) (P:α->Store->Js->Hp->Prop):Prop:=match r with
 | .ok a S=>∀J' H',AbS K J' S H'->Grow J H J' H'->P a S J' H'
 | .ex x S=>∀J' H',AbS K J' S H'->Grow J H J' H'->E x S J' H'
 | .bad=>False
noncomputable def PostS (K:PySem.W.Frag) (E:XE) (J:Js) (H:Hp) (r:SR) (D:Ends):Prop:=match r with
 | .nx e S=>∀J' H' σ,AbS K J' S H'->Grow J H J' H'->RepE K J' H' e σ->D.nx σ H'
 | .rt d S=>∀J' H' v,AbS K J' S H'->Grow J H J' H'->Rep K J' H' d v->D.rt v H'
 | .bk e S=>∀J' H' σ,AbS K J' S H'->Grow J H J' H'->RepE K J' H' e σ->D.bk σ H'
 | .ct e S=>∀J' H' σ,AbS K J' S H'->Grow J H J' H'->RepE K J' H' e σ->D.ct σ H'
 | .ex x S=>∀J' H',AbS K J' S H'->Grow J H J' H'->E x S J' H'
 | .bad=>False
section
variable {α β:Type}{K:PySem.W.Frag}{E:XE}{J J1:Js}{H H1:Hp}{S:Store}
theorem Post.grow {r:Rs α}{P:α->Store->Js->Hp->Prop}(g:Grow J H J1 H1) (h:Post K E J H r P):Post K E J1 H1 r P:=by
 cases r with
 | ok a S=>exact fun J' H' h1 h2=>h J' H' h1 (g.trans h2)
 | ex x S=>exact fun J' H' h1 h2=>h J' H' h1 (g.trans h2)
 | bad=>exact h
theorem Post.bind {r:Rs α}{k:α->Store->Rs β}{P:β->Store->Js->Hp->Prop}(h:Post K E J H (r.bind k) P):Post K E J H r (fun a S J' H'=>Post K E J' H' (k a S) P):=by
 cases r with
 | ok a S=>exact fun J' H' _ g=>Post.grow g h
 | ex x S=>exact h
 | bad=>exact h
theorem Post.imp {r:Rs α}{P P':α->Store->Js->Hp->Prop}(h:Post K E J H r P) (k:∀a S J' H',r=.ok a S->AbS K J' S H'->Grow J H J' H'->P a S J' H'->P' a S J' H'):Post K E J H r P':=by
 cases r with
 | ok a S=>exact fun J' H' h1 h2=>k a S J' H' rfl h1 h2 (h J' H' h1 h2)
 | ex x S=>exact h
 | bad=>exact h
theorem Post.map {r:Rs α}{P P':α->Store->Js->Hp->Prop}(h:Post K E J H r P) (k:∀a S J' H',r=.ok a S->AbS K J' S H'->Grow J H J' H'->(∀J2 H2,AbS K J2 S H2->Grow J H J2 H2->P a S J2 H2)->P' a S J' H'):Post K E J H r P':=by
 cases r with
 | ok a S=>exact fun J' H' h1 h2=>k a S J' H' rfl h1 h2 h
 | ex x S=>exact h
 | bad=>exact h
theorem Post.lift {o:Option α}{P:α->Store->Js->Hp->Prop}(h:Post K E J H (DS.lift o S) P):∃a,o=some a/\∀J' H',AbS K J' S H'->Grow J H J' H'->P a S J' H':=by
 cases o with
 | some a=>exact⟨a,rfl,h⟩
 | none=>exact False.elim h
theorem PostS.grow {r:SR}{D:Ends}(g:Grow J H J1 H1) (h:PostS K E J H r D):PostS K E J1 H1 r D:=by
 cases r with
 | nx e S=>exact fun J' H' σ h1 h2=>h J' H' σ h1 (g.trans h2)
 | bk e S=>exact fun J' H' σ h1 h2=>h J' H' σ h1 (g.trans h2)
 | ct e S=>exact fun J' H' σ h1 h2=>h J' H' σ h1 (g.trans h2)
 | rt e S=>exact fun J' H' σ h1 h2=>h J' H' σ h1 (g.trans h2)
 | ex x S=>exact fun J' H' h1 h2=>h J' H' h1 (g.trans h2)
 | bad=>exact h
theorem PostS.then {r:Rs α}{k:α->Store->SR}{D:Ends}(h:PostS K E J H (r.then k) D):Post K E J H r (fun a S J' H'=>PostS K E J' H' (k a S) D):=by
 cases r with
 | ok a S=>exact fun J' H' _ g=>PostS.grow g h
 | ex x S=>exact h
 | bad=>exact h
end
section
variable (K:PySem.W.Frag) (E:XE)
noncomputable def tOf (m:DS.EM):TE:=fun σ H Q=>∃env S J,AbS K J S H/\RepE K J H env σ/\Post K E J H (m env S) (fun d _ J' H'=>∀v,Rep K J' H' d v->Q v H')
noncomputable def tOfF (m:DS.EM):TE:=fun σ H Q=>∃env S J,AbS K J S H/\RepE K J H env σ/\Post K E J H (m env S) (fun d _ J' H'=>∀p o,H' p=none->ObD K J' H' d o->Q (.ref p) (upd H' p o))
noncomputable def ttOf (m:DS.TM):TT:=fun σ H Q=>∃env S J,AbS K J S H/\RepE K J H env σ/\Post K E J H (m env S) (fun b _ _ H'=>Q b H')
noncomputable def aOf (m:DS.AM):TA:=fun σ H Q=>∃env S J,AbS K J S H/\RepE K J H env σ/\Post K E J H (m env S) (fun ds _ J' H'=>∀vs,RepL K J' H' ds vs->Q vs H')
noncomputable def tsOf (m:DS.SM):TS:=fun D σ H=>∃env S J,AbS K J S H/\RepE K J H env σ/\PostS K E J H (m env S) D
noncomputable def gOf (m:DS.GM):TG:=fun v σ H Q=>∃env S J d env',AbS K J S H/\RepE K J H env σ/\Rep K J H d v/\m S d env=some env'/\∀σ',RepE K J H env' σ'->Q σ' H
noncomputable def gsOf (m:Store->List D->DS.Env->Option DS.Env):TGs:=fun vs σ H Q=>∃env S J ds env',AbS K J S H/\RepE K J H env σ/\RepL K J H ds vs/\m S ds env=some env'/\∀σ',RepE K J H env' σ'->Q σ' H
structure ItOk (J0:Js) (H0:Hp) (w:DS.Walk) (I:It):Prop where
 go:∀(i:Nat) (H:Hp) (J:Js) (S:Store),AbS K J S H->Grow J0 H0 J H->DS.gOk S w.gd->i<w.its.length->I.go i H
 yld:∀(i:Nat) (H:Hp) (J:Js) (S:Store) (x:V) (H':Hp),AbS K J S H->Grow J0 H0 J H->DS.gOk S w.gd->I.yld i H x H'->∀d,w.its[i]?=some d->AbS K J S H'/\Grow J H J H'/\Rep K J H' d x
 stop:∀(i:Nat) (H:Hp) (J:Js) (S:Store),AbS K J S H->Grow J0 H0 J H->DS.gOk S w.gd->w.its.length<=i->I.stop i H
noncomputable def iOf (m:DS.IM):TI:=fun σ H R=>∃env S J,AbS K J S H/\RepE K J H env σ/\Post K E J H (m env S) (fun w _ J' H'=>∀I,ItOk K J' H' w I->R I H')
noncomputable def r2Of (g:Store->D->D->Option D):R2:=fun x y H Q=>∃J S d1 d2 d,AbS K J S H/\Rep K J H d1 x/\Rep K J H d2 y/\g S d1 d2=some d/\∀v H',AbS K J S H'->Grow J H J H'->Rep K J H' d v->Q v H'
noncomputable def r1Of (g:Store->D->Option D):V->Hp->VK->Prop:=fun x H Q=>∃J S d1 d,AbS K J S H/\Rep K J H d1 x/\g S d1=some d/\∀v H',AbS K J S H'->Grow J H J H'->Rep K J H' d v->Q v H'
noncomputable def cOf (g:Store->List D->Option D):List V->Hp->VK->Prop:=fun xs H Q=>∃J S ds d,AbS K J S H/\RepL K J H ds xs/\g S ds=some d/\∀v H',AbS K J S H'->Grow J H J H'->Rep K J H' d v->Q v H'
noncomputable def yAd (g:Store->D->D->Option D):R2:=fun x y H Q=>∃J S d1 d2 d,AbS K J S H/\Rep K J H d1 x/\Rep K J H d2 y/\g S d1 d2=some d/\∀p o H',AbS K J S H'->Grow J H J H'->H' p=none->ObD K J H' d o->Q (.ref p) (upd H' p o)
noncomputable def cOfF (g:Store->List D->Option D):List V->Hp->VK->Prop:=fun xs H Q=>∃J S ds d,AbS K J S H/\RepL K J H ds xs/\g S ds=some d/\∀p o H',AbS K J S H'->Grow J H J H'->H' p=none->ObD K J H' d o->Q (.ref p) (upd H' p o)
noncomputable def mOf (g:Store->D->List D->Option (D × Store)):V->List V->Hp->VK->Prop:=fun x xs H Q=>∃J S d1 ds d S',AbS K J S H/\Rep K J H d1 x/\RepL K J H ds xs/\g S d1 ds=some (d,S')/\∀v H',AbS K J S' H'->Grow J H J H'->Rep K J H' d v->Q v H'
noncomputable def spOf (F:DS.Fn):Sp:=fun vs H Q _=>∃J S ds,AbS K J S H/\RepL K J H ds vs/\Post K E J H (F ds S) (fun d _ J' H'=>∀v,Rep K J' H' d v->Q v H')
end
structure DE (X:Cx) (K:PySem.W.Frag) (E:XE) (e:Expr) (m:DS.EM):Prop where h:SE X e (tOf K E m)
structure DF (X:Cx) (K:PySem.W.Frag) (E:XE) (e:Expr) (m:DS.EM):Prop where h:SE X e (tOfF K E m)
structure DT (X:Cx) (K:PySem.W.Frag) (E:XE) (e:Expr) (m:DS.TM):Prop where h:ST X e (ttOf K E m)
structure DW (X:Cx) (K:PySem.W.Frag) (E:XE) (e:Expr) (m:DS.TM):Prop where h:SW X e (ttOf K E m)
structure DIf (X:Cx) (K:PySem.W.Frag) (E:XE) (es:List Expr) (m:DS.TM):Prop where h:SIfs X es (ttOf K E m)
structure DA (X:Cx) (K:PySem.W.Frag) (E:XE) (es:List Expr) (m:DS.AM):Prop where
 h:SA X es (aOf K E m)
 len:∀env S ds S',m env S=.ok ds S'->ds.length=es.length
structure DS1 (X:Cx) (K:PySem.W.Frag) (E:XE) (st:Stmt) (m:DS.SM):Prop where h:SS X st (tsOf K E m)
structure DSs (X:Cx) (K:PySem.W.Frag) (E:XE) (st:List Stmt) (m:DS.SM):Prop where h:SSs X st (tsOf K E m)
structure DG (X:Cx) (K:PySem.W.Frag) (e:Expr) (m:DS.GM):Prop where h:SG X e (gOf K m)
structure DGs (X:Cx) (K:PySem.W.Frag) (es:List Expr) (m:List DS.GM):Prop where h:SGs X es (gsOf K (DS.gAll m))
structure DI (X:Cx) (K:PySem.W.Frag) (E:XE) (tg e:Expr) (m:DS.IM):Prop where h:SI X tg e (iOf K E m)
section
variable {X:Cx}{K:PySem.W.Frag}{E:XE}{e a b c:Expr}{es:List Expr}{p pos:Pos}{m ma mb mc:DS.EM}{mt mu:DS.TM}
theorem SE.imp {t t':TE}(h:SE X e t) (k:∀σ H Q,t' σ H Q->t σ H Q):SE X e t':=⟨fun pins s σ H Q I q=>h.h pins s σ H Q I (k σ H Q q)⟩
theorem ST.imp {t t':TT}(h:ST X e t) (k:∀σ H Q,t' σ H Q->t σ H Q):ST X e t':=⟨fun pins s σ H Q I q=>h.h pins s σ H Q I (k σ H Q q)⟩
theorem SW.imp {t t':TT}(h:SW X e t) (k:∀σ H Q,t' σ H Q->t σ H Q):SW X e t':=⟨fun whole pins s σ H Q I q=>h.h whole pins s σ H Q I (k σ H Q q)⟩
theorem SIfs.imp {t t':TT}(h:SIfs X es t) (k:∀σ H Q,t' σ H Q->t σ H Q):SIfs X es t':=⟨fun pins s σ H Q I q=>h.h pins s σ H Q I (k σ H Q q)⟩
theorem SA.imp {t t':TA}(h:SA X es t) (k:∀σ H Q,t' σ H Q->t σ H Q):SA X es t':=⟨fun pos pins s σ H Q I q=>h.h pos pins s σ H Q I (k σ H Q q)⟩
theorem SS.imp {st:Stmt}{t t':TS}(h:SS X st t) (k:∀D σ H,t' D σ H->t D σ H):SS X st t':=⟨fun pins s σ H D I q=>h.h pins s σ H D I (k D σ H q)⟩
theorem SSs.imp {st:List Stmt}{t t':TS}(h:SSs X st t) (k:∀D σ H,t' D σ H->t D σ H):SSs X st t':=⟨fun pins s σ H D I q=>h.h pins s σ H D I (k D σ H q)⟩
theorem SG.imp {t t':TG}(h:SG X e t) (k:∀v σ H Q,t' v σ H Q->t v σ H Q):SG X e t':=⟨fun pins s σ H v u Q I r q=>h.h pins s σ H v u Q I r (k v σ H Q q)⟩
theorem SGs.imp {t t':TGs}(h:SGs X es t) (k:∀v σ H Q,t' v σ H Q->t v σ H Q):SGs X es t':=⟨fun pins s σ H v u Q I r q=>h.h pins s σ H v u Q I r (k v σ H Q q)⟩
theorem SI.imp {tg:Expr}{t t':TI}(h:SI X tg e t) (k:∀σ H R,t' σ H R->t σ H R):SI X tg e t':=⟨fun pins s σ H R I q=>h.h pins s σ H R I (k σ H R q)⟩
theorem ObD.rep {K:PySem.W.Frag}{J:Js}{S:Store}{H:Hp}{d:D}{o:HO}{p:Addr}(ha:AbS K J S H) (n:H p=none) (r:ObD K J H d o):Rep K J (upd H p o) d (.ref p):=by
 have r2:=r.grow (Grow.push (o:=o) n)
 have hp:=ha.out n
 cases d with
 | lst ds=>obtain⟨xs,rfl,rl⟩:=r2;exact⟨p,xs,rfl,⟨zAu,hp⟩,rl⟩
 | dct _ ks vs=>obtain⟨xs,t,rl⟩:=r2;exact⟨p,o,xs,rfl,hp,zAu,t,rl⟩
 | _=>exact False.elim r2
theorem zCs (h:DF X K E e m):DE X K E e m:=⟨h.h.imp fun σ H Q ⟨env,S,J,ha,he,q⟩=>⟨env,S,J,ha,he,q.map fun d S' J' H' _ h1 g k p o n r=>
 k J' (upd H' p o) (h1.push n) (g.trans (.push n)) (.ref p) (r.rep h1 n)⟩⟩
theorem zM5 (h:DF X K E e m):DE X K E e (DS.eNew m):=⟨h.h.imp fun σ H Q ⟨env,S,J,ha,he,q⟩=>⟨env,S,J,ha,he,q.bind.map fun d S' J' H' _ h1 g k p o n r=>
 k J' H' h1 g (J'++[p]) (upd H' p o) (h1.name n r) (.name n) (.ref p) ⟨p,by rw[<- h1.len,vq (xh _)];simp,rfl⟩⟩⟩
theorem zA1 (i:Nat) {x:Str}(hN:X.N[i]?=some x:=by rfl) (hv:Vis X.env.scope x:=by first|exact Or.inl rfl|exact Or.inr (Or.inl rfl)|exact Or.inr (Or.inr rfl)) (hd:(x == ("__debug__":Str))=false:=by decide)
  (hcd:(x == ("__classdict__":Str))=false:=by decide):DE X K E (.Name x pos) (DS.eVar i):=⟨(pv' i hN hv hd hcd).imp fun σ H Q ⟨env,S,J,ha,he,q⟩=>by
 unfold DS.eVar at q
 cases e1:env[i]? with
 | none=>rw[e1]at q;exact False.elim q
 | some o=>
  cases o with
  | none=>rw[e1]at q;exact False.elim q
  | some d=>
   rw[e1]at q
   obtain⟨v,ev,r⟩:=he.get i d e1
   exact⟨v,ev,q J H ha .refl v r⟩⟩
theorem de_c {v:V}{d:D}(h:SE X e (tC v)) (r:∀J H,Rep K J H d v):DE X K E e (DS.eC d):=⟨h.imp fun σ H Q hz2=>by obtain⟨env,S,J,ha,he,q⟩:=hz2;exact q J H ha .refl v (r J H)⟩
theorem zA3 {i:Int}{j:_}:DE X K E (.Constant (.int i) j pos) (DS.eC (.int i)):=de_c zVe fun _ _=>rfl
theorem zFw {i:Bool}{j:_}:DE X K E (.Constant (.bool i) j pos) (DS.eC (.bl i)):=de_c zYl fun _ _=>rfl
theorem zEc {i:Str}{j:_}:DE X K E (.Constant (.str i) j pos) (DS.eC (.str i)):=de_c zOr fun _ _=>rfl
theorem zQ4 {x:Str}{T:String}{u:Value}(hg:Gl X x) (hm:X.mg x=none) (hv:bootBuiltins x=some u) (r:RelV (.ty T) u) (hn:x≠"__name__":=by decide) (hd:(x == ("__debug__":Str))=false:=by decide):DE X K E (.Name x pos) (DS.eC (.ty T)):=de_c (zRr hg hm hv r hn hd) fun _ _=>rfl
theorem zL3 {r:R2}{g:Store->D->D->Option D}(hr:∀x y H Q,r2Of K g x y H Q->r x y H Q):∀σ H Q,tOf K E (DS.eOp g ma mb) σ H Q->tOp r (tOf K E ma) (tOf K E mb) σ H Q:=fun σ H Q ⟨env,S,J,ha,he,q⟩=>
 ⟨env,S,J,ha,he,q.bind.imp fun d1 S1 J1 H1 _ a1 g1 q1 x rx=>⟨env,S1,J1,a1,he.grow g1,q1.bind.imp fun d2 S2 J2 H2 _ a2 g2 q2 y ry=>by
  obtain⟨d,e,k⟩:=q2.lift
  exact hr _ _ _ _ ⟨J2,S2,d1,d2,d,a2,Rep.grow g2 _ _ rx,ry,e,fun v H' h1 h2 h3=>k J2 H' h1 h2 v h3⟩⟩⟩
theorem zAa {op:Operator}{g:Store->D->D->Option D}(ho:OpR X (binaryOp op) (r2Of K g)) (ha:DE X K E a ma) (hb:DE X K E b mb):DE X K E (.BinOp a op b pos) (DS.eOp g ma mb):=⟨(zYd ho ha.h hb.h).imp (zL3 fun _ _ _ _ h=>h)⟩
theorem zTt {op:CmpOp}{g:Store->D->D->Option D}(ho:OpR X (compareOp op) (r2Of K g)) (ha:DE X K E a ma) (hb:DE X K E b mb) (hm:behindInMarks op b=false):DE X K E (.Compare a [op] [b] pos) (DS.eOp g ma mb):=⟨(zRo ho ha.h hb.h hm).imp (zL3 fun _ _ _ _ h=>h)⟩
theorem zAb {g:Store->D->D->Option D}(hr:IxR X (r2Of K g)) (ha:DE X K E a ma) (hb:DE X K E b mb) (h:nsl b=true:=by rfl):DE X K E (.Subscript a b pos) (DS.eOp g ma mb):=⟨(qix' hr ha.h hb.h h).imp (zL3 fun _ _ _ _ h=>h)⟩
theorem zH9 {op:UnaryOp}{g:Store->D->Option D}(ho:UnR X (unaryOp op) (r1Of K g)) (ha:DE X K E a ma):DE X K E (.UnaryOp op a pos) (DS.eUn g ma):=⟨(zYa ho ha.h).imp fun σ H Q ⟨env,S,J,h,he,q⟩=>
 ⟨env,S,J,h,he,q.bind.imp fun d1 S1 J1 H1 _ a1 g1 q1 x rx=>by
  obtain⟨d,e,k⟩:=q1.lift
  exact⟨J1,S1,d1,d,a1,rx,e,fun v H' h1 h2 h3=>k J1 H' h1 h2 v h3⟩⟩⟩
theorem zA4:DA X K E [] DS.aNil:=⟨pa_nil'.imp fun σ H Q hz3=>by obtain⟨env,S,J,ha,he,q⟩:=hz3;exact q J H ha .refl [] rfl,fun _ _ _ _ e=>by cases e;rfl⟩
theorem zA2 {am:DS.AM}(ha:DE X K E e m) (hr:DA X K E es am) (h:nst e=true:=by rfl):DA X K E (e::es) (DS.zA0 m am):=by
 refine⟨(qa' ha.h hr.h h).imp fun σ H Q ⟨env,S,J,h,he,q⟩=>⟨env,S,J,h,he,q.bind.imp fun d1 S1 J1 H1 _ a1 g1 q1 x rx=>⟨env,S1,J1,a1,he.grow g1,q1.bind.imp fun d2 S2 J2 H2 _ a2 g2 q2 ys ry=>
  q2 J2 H2 a2 .refl (x::ys) ⟨x,ys,rfl,Rep.grow g2 _ _ rx,ry⟩⟩⟩,fun env S ds S' e1=>?_⟩
 unfold DS.zA0 at e1
 cases e2:m env S with
 | ok d S1=>
  rw[e2,Rs.bind_ok]at e1
  cases e3:am env S1 with
  | ok dr S2=>rw[e3,Rs.bind_ok]at e1;cases e1;simp[hr.len _ _ _ _ e3]
  | _=>rw[e3]at e1;cases e1
 | _=>rw[e2]at e1;cases e1
theorem z1000 {n:Nat}(h:n<=1000):n<=sizeLine:=xH h (by decide)
theorem zAz {am:DS.AM}{k:Nat}(h:DA X K E es am) (hz:es.length<=1000:=by decide):DE X K E (.Tuple es k pos) (DS.eTup am):=⟨(zVa h.h).imp fun σ H Q ⟨env,S,J,ha,he,q⟩=>
 ⟨env,S,J,ha,he,q.bind.imp fun ds S1 J1 H1 e1 a1 g1 q1 xs rx=>⟨by rw[<- rx.length,h.len _ _ _ _ e1];exact z1000 hz,fun p n=>
  q1 J1 (upd H1 p (.tup xs)) (a1.push n) (.push n) (.ref p) ⟨p,xs,rfl,⟨zAu,a1.out n⟩,RepL.grow (.push n) _ _ rx⟩⟩⟩⟩
theorem zGm {am:DS.AM}(h:DA X K E es am) (hz:es.length<=1000:=by decide):DF X K E (.List es pos) (DS.eLst am):=⟨(zVd h.h).imp fun σ H Q ⟨env,S,J,ha,he,q⟩=>
 ⟨env,S,J,ha,he,q.bind.imp fun ds S1 J1 H1 e1 a1 g1 q1 xs rx=>⟨by rw[<- rx.length,h.len _ _ _ _ e1];exact z1000 hz,fun p n=>
  q1 J1 H1 a1 .refl p (.lst xs) n ⟨xs,rfl,rx⟩⟩⟩⟩
theorem yA3 {r:List V->Hp->VK->Prop}{am:DS.AM}{g:Store->List D->Option D}(hr:∀xs H Q,cOf K g xs H Q->r xs H Q):∀σ H Q,tOf K E (DS.eCB g am) σ H Q->tCB r (aOf K E am) σ H Q:=fun σ H Q ⟨env,S,J,ha,he,q⟩=>
 ⟨env,S,J,ha,he,q.bind.imp fun ds S1 J1 H1 _ a1 g1 q1 xs rx=>by
  obtain⟨d,e,k⟩:=q1.lift
  exact hr _ _ _ ⟨J1,S1,ds,d,a1,rx,e,fun v H' h1 h2 h3=>k J1 H' h1 h2 v h3⟩⟩
theorem yA2 {r:List V->Hp->VK->Prop}{am:DS.AM}{g:Store->List D->Option D}(hr:∀xs H Q,cOfF K g xs H Q->r xs H Q):∀σ H Q,tOfF K E (DS.eCB g am) σ H Q->tCB r (aOf K E am) σ H Q:=fun σ H Q ⟨env,S,J,ha,he,q⟩=>
 ⟨env,S,J,ha,he,q.bind.imp fun ds S1 J1 H1 _ a1 g1 q1 xs rx=>by
  obtain⟨d,e,k⟩:=q1.lift
  exact hr _ _ _ ⟨J1,S1,ds,d,a1,rx,e,fun p o H' h1 h2 h3=>k J1 H' h1 h2 p o h3⟩⟩
theorem zBt {x:Str}{id:String}{am:DS.AM}{g:Store->List D->Option D}(hc:zCb X (.builtin id) (cOf K g)) (hg:Gl X x) (hm:X.mg x=none) (hv:bootBuiltins x=some (.builtin id)) (ha:DA X K E (e::es) am) (hn:x≠"__name__":=by decide) (hdb:(x == ("__debug__":Str))=false:=by decide)
  (h:(e::es).all nst=true:=by rfl):DE X K E (.Call (.Name x p) (e::es) [] pos) (DS.eCB g am):=⟨(zUs hc hg hm hv ha.h hn hdb h).imp (yA3 fun _ _ _ h=>h)⟩
theorem zWx {x:Str}{T:String}{am:DS.AM}{g:Store->List D->Option D}(hc:zCb X (.type T) (cOf K g)) (hg:Gl X x) (hm:X.mg x=none) (hv:bootBuiltins x=some (.type T)) (ha:DA X K E (e::es) am) (hn:x≠"__name__":=by decide) (hdb:(x == ("__debug__":Str))=false:=by decide)
  (h:(e::es).all nst=true:=by rfl):DE X K E (.Call (.Name x p) (e::es) [] pos) (DS.eCB g am):=⟨(zOb hc hg hm hv ha.h hn hdb h).imp (yA3 fun _ _ _ h=>h)⟩
theorem zZv {x:Str}{T:String}{am:DS.AM}{g:Store->List D->Option D}(hc:zCb X (.type T) (cOfF K g)) (hg:Gl X x) (hm:X.mg x=none) (hv:bootBuiltins x=some (.type T)) (ha:DA X K E (e::es) am) (hn:x≠"__name__":=by decide) (hdb:(x == ("__debug__":Str))=false:=by decide)
  (h:(e::es).all nst=true:=by rfl):DF X K E (.Call (.Name x p) (e::es) [] pos) (DS.eCB g am):=⟨(zOb hc hg hm hv ha.h hn hdb h).imp (yA2 fun _ _ _ h=>h)⟩
theorem zAe {x:Str}{k:Nat}{ps:List Str}{F:DS.Fn}{am:DS.AM}(C:Cal X.prog X.w X.K X.mg X.base x k ps (spOf K E F)) (hr:Room k X.A) (hg:Gl X x) (ha:DA X K E (e::es) am) (hdb:(x == ("__debug__":Str))=false:=by decide)
  (h:(e::es).all nst=true:=by rfl):DE X K E (.Call (.Name x p) (e::es) [] pos) (DS.zAc F am):=⟨(qcal' C hr hg ha.h hdb h).imp fun σ H Q ⟨env,S,J,h,he,q⟩=>
 ⟨env,S,J,h,he,q.bind.imp fun ds S1 J1 H1 _ a1 g1 q1 xs rx=>by
  show spOf K E F (xs++[]) H1 Q E0
  rw[List.append_nil]
  exact⟨J1,S1,ds,a1,rx,q1⟩⟩⟩
theorem zXf {J:Js}{S:Store}{H:Hp}{d:D}{v:V}{T:String}(ha:AbS K J S H) (r:Rep K J H d v) (hT:T="str"\/T="list"\/T="dict") (h:DS.tyD S d=some T):tyV K T v H:=by
 cases d with
 | str x=>obtain rfl:=r;cases h;exact rfl
 | lst ds=>obtain⟨a,xs,rfl,t,_⟩:=r;cases h;exact .inl ⟨rfl,xs,t.sq⟩
 | klst ds=>obtain⟨a,xs,rfl,t,_⟩:=r;cases h;exact .inl ⟨rfl,xs,t.sq⟩
 | dct _ ks vs=>
  obtain⟨a,o,xs,rfl,_,e,t,_⟩:=r;cases h
  refine .inr (.inr (.inl ⟨rfl,?_⟩))
  rcases t with⟨_,kvs,rfl,_⟩|⟨_,kvs,rfl,_⟩
  ·exact .inl ⟨kvs,e⟩
  ·exact .inr ⟨kvs,e⟩
 | ref n=>
  obtain⟨a,ea,rfl⟩:=r
  obtain⟨c,ec,o,eo,rc⟩:=ha.at ea
  have el:DS.look S (.ref n)=some c:=ec
  unfold DS.tyD at h
  rw[el]at h
  cases c with
  | lst ds=>cases h;obtain⟨xs,rfl,_⟩:=rc;exact .inl ⟨rfl,xs,.inl (.inl eo)⟩
  | dct _ ks vs=>
   cases h
   obtain⟨xs,t,_⟩:=rc
   refine .inr (.inr (.inl ⟨rfl,?_⟩))
   rcases t with⟨_,kvs,rfl,_⟩|⟨_,kvs,rfl,_⟩
   ·exact .inl ⟨kvs,eo⟩
   ·exact .inr ⟨kvs,eo⟩
  | _=>exact False.elim rc
 | _=>first|(cases h;rcases hT with z|z|z <;> exact absurd z (by decide))|cases h
theorem zZ1 {T:String}{r:V->List V->Hp->VK->Prop}{am:DS.AM}{g:Store->D->List D->Option (D × Store)}(hT:T="str"\/T="list"\/T="dict") (hr:∀x xs H Q,mOf K g x xs H Q->r x xs H Q):∀σ H Q,tOf K E (DS.eMt T g ma am) σ H Q->tBM K T r (tOf K E ma) (aOf K E am) σ H Q:=fun σ H Q ⟨env,S,J,ha,he,q⟩=>
 ⟨env,S,J,ha,he,q.bind.imp fun d1 S1 J1 H1 _ a1 g1 q1 x rx=>by
  by_cases hty:DS.tyD S1 d1=some T
  ·rw[xc hty]at q1
   refine⟨zXf a1 rx hT hty,env,S1,J1,a1,he.grow g1,q1.bind.imp fun ds S2 J2 H2 _ a2 g2 q2 xs rs=>?_⟩
   cases e:g S2 d1 ds with
   | none=>rw[e]at q2;exact False.elim q2
   | some w=>
    rw[e]at q2
    exact hr _ _ _ _ ⟨J2,S2,d1,ds,w.1,w.2,a2,Rep.grow g2 _ _ rx,rs,e,fun v H' h1 h2 h3=>q2 J2 H' h1 h2 v h3⟩
  ·rw[xf hty]at q1;exact False.elim q1⟩
theorem zNb {T name id:_}{o:Expr}{apos cpos:Pos}{g:Store->D->List D->Option (D × Store)}{mo:DS.EM}{am:DS.AM}(pa:PlainAttrs T) (slot:Slot T name id) (hty:typeOf (.builtin id)=pure (.type "method_descriptor")) (hm:MtR X id (mOf K g))
  (hT:T="str"\/T="list"\/T="dict") (ho:DE X K E o mo) (ha:DA X K E (e::es) am) (h:nba o=true:=by rfl) (hs:(e::es).all nst=true:=by rfl)
  (hlen:decide ((e::es).length+0+0<30)=true:=by rfl) (hline:(apos.endLine == cpos.line)=true:=by rfl) (hK:X.K=K:=by rfl):DE X K E (.Call (.Attribute o name apos) (e::es) [] cpos) (DS.eMt T g mo am):=by
 subst hK
 exact⟨(zYk pa slot hty hm ho.h ha.h h hs hlen hline).imp (zZ1 hT fun _ _ _ _ h=>h)⟩
theorem zTs {T name id:_}{o:Expr}{apos cpos:Pos}{g:Store->D->List D->Option (D × Store)}{mo:DS.EM}(pa:PlainAttrs T) (slot:Slot T name id) (hty:typeOf (.builtin id)=pure (.type "method_descriptor")) (hm:MtR X id (mOf K g))
  (hT:T="str"\/T="list"\/T="dict") (ho:DE X K E o mo) (h:nba o=true:=by rfl) (hline:(apos.endLine == cpos.line)=true:=by rfl) (hK:X.K=K:=by rfl):DE X K E (.Call (.Attribute o name apos) [] [] cpos) (DS.eMt T g mo DS.aNil):=by
 subst hK
 refine⟨(qbm0' pa slot hty hm ho.h h hline).imp fun σ H Q h=>?_⟩
 obtain⟨env,S,J,ha,he,q⟩:=zZ1 hT (fun _ _ _ _ h=>h) σ H Q h
 refine⟨env,S,J,ha,he,q.imp fun d1 S1 J1 H1 _ a1 g1 q1 x rx=>?_⟩
 obtain⟨ht,env',S',J',ha',he',q'⟩:=q1 x rx
 exact⟨ht,q' J' H1 ha' .refl [] rfl⟩
noncomputable def poOf (K:PySem.W.Frag) (E:XE) (m:DS.Env->Store->Rs (Option Int)):TO:=fun σ H Q=>∃env S J,AbS K J S H/\RepE K J H env σ/\Post K E J H (m env S) (fun oi _ _ H'=>Q oi H')
structure DO (X:Cx) (K:PySem.W.Frag) (E:XE) (e:Option Expr) (m:DS.Env->Store->Rs (Option Int)):Prop where h:SO X e (poOf K E m)
theorem SO.imp {o:Option Expr}{t t':TO}(h:SO X o t) (k:∀σ H Q,t' σ H Q->t σ H Q):SO X o t':=⟨fun pins s σ H Q I q=>h.h pins s σ H Q I (k σ H Q q)⟩
theorem zN8:DO X K E none DS.pNo:=⟨po_none'.imp fun σ H Q hz4=>by obtain⟨env,S,J,ha,he,q⟩:=hz4;exact q J H ha .refl⟩
theorem zHi (h:DE X K E e m):DO X K E (some e) (DS.pYes m):=⟨(zRc h.h).imp fun σ H Q ⟨env,S,J,ha,he,q⟩=>⟨env,S,J,ha,he,q.bind.imp fun d S1 J1 H1 _ a1 g1 q1 x rx=>by
 obtain⟨oi,e,k⟩:=q1.lift
 cases d with
 | int i=>cases e;obtain rfl:=rx;exact⟨i,rfl,k J1 H1 a1 .refl⟩
 | _=>cases e⟩⟩
noncomputable def slOf (K:PySem.W.Frag) (g:Store->D->Option Int->Option Int->Option D):V->Option Int->Option Int->Hp->VK->Prop:=fun x lo hi H Q=>∃J S d1 d,AbS K J S H/\Rep K J H d1 x/\g S d1 lo hi=some d/\∀v H',AbS K J S H'->Grow J H J H'->Rep K J H' d v->Q v H'
theorem zNa {g:Store->D->Option Int->Option Int->Option D}{lo hi:Option Expr}{ml mh:DS.Env->Store->Rs (Option Int)}{p2:Pos}(hr:SlR X (slOf K g)) (he:DE X K E e m) (hl:DO X K E lo ml) (hu:DO X K E hi mh):DE X K E (.Subscript e (.Slice lo hi none p2) pos) (DS.eSl g m ml mh):=
 ⟨(zOs hr he.h hl.h hu.h).imp fun σ H Q ⟨env,S,J,ha,he,q⟩=>⟨env,S,J,ha,he,q.bind.imp fun d S1 J1 H1 _ a1 g1 q1 x rx=>⟨env,S1,J1,a1,he.grow g1,q1.bind.imp fun l S2 J2 H2 _ a2 g2 q2=>
  ⟨env,S2,J2,a2,he.grow (g1.trans g2),q2.bind.imp fun h S3 J3 H3 _ a3 g3 q3=>by
   obtain⟨r,er,k⟩:=q3.lift
   exact⟨J3,S3,d,r,a3,Rep.grow (g2.trans g3) _ _ rx,er,fun v H' h1 h2 h3=>k J3 H' h1 h2 v h3⟩⟩⟩⟩⟩
theorem zMe {J:Js}{H:Hp}{d:D}{x:V}{k:Bool}(e:DS.asB d=some k) (r:Rep K J H d x):x=.bl k:=by
 cases d with
 | bl i=>cases e;exact r
 | _=>cases e
theorem yA8:∀σ H Q,ttOf K E (DS.tB m) σ H Q->tOf K E m σ H (fun x H'=>∃k,x=.bl k/\Q k H'):=fun σ H Q ⟨env,S,J,ha,he,q⟩=>⟨env,S,J,ha,he,q.bind.imp fun d S1 J1 H1 _ a1 g1 q1 x rx=>by
 obtain⟨k,e,z⟩:=q1.lift
 exact⟨k,zMe e rx,z J1 H1 a1 .refl⟩⟩
theorem zB8 {op:CmpOp}{g:Store->D->D->Option D}(ho:OpR X (compareOp op) (r2Of K g)) (ha:DE X K E a ma) (hb:DE X K E b mb) (hm:behindInMarks op b=false):DT X K E (.Compare a [op] [b] pos) (DS.tB (DS.eOp g ma mb)):=
 ⟨(zR5 ho ha.h hb.h hm).imp fun σ H Q h=>zL3 (K:=K) (E:=E) (fun _ _ _ _ h=>h) σ H _ (yA8 σ H Q h)⟩
theorem zSu {g g':Store->D->D->Option D}:∀σ H Q,tOf K E (DS.zHh g g' ma mb mc) σ H Q->zNu (r2Of K g) (r2Of K g') (tOf K E ma) (tOf K E mb) (tOf K E mc) σ H Q:=fun σ H Q ⟨env,S,J,ha,he,q⟩=>
 ⟨env,S,J,ha,he,q.bind.imp fun d1 S1 J1 H1 _ a1 g1 q1 x rx=>⟨env,S1,J1,a1,he.grow g1,q1.bind.imp fun d2 S2 J2 H2 _ a2 g2 q2 y ry=>by
  obtain⟨z,ez,k⟩:=q2.bind.lift
  refine⟨J2,S2,d1,d2,z,a2,Rep.grow g2 _ _ rx,ry,ez,fun v H3 a3 g3 rv=>?_⟩
  obtain⟨b,eb,k2⟩:=(k J2 H3 a3 g3).bind.lift
  refine⟨b,zMe eb rv,?_⟩
  have k3:=k2 J2 H3 a3 .refl
  cases b with
  | false=>exact k3 J2 H3 a3 .refl _ rfl
  | true=>
   refine⟨env,S2,J2,a3,he.grow (g1.trans (g2.trans g3)),k3.bind.imp fun d4 S4 J4 H4 _ a4 g4 q4 w rw=>?_⟩
   obtain⟨d,e,k⟩:=q4.lift
   exact⟨J4,S4,d2,d4,d,a4,Rep.grow (g3.trans g4) _ _ ry,rw,e,fun v H' h1 h2 h3=>k J4 H' h1 h2 v h3⟩⟩⟩
theorem zM6 {op op':CmpOp}{g g':Store->D->D->Option D}(ho:OpR X (compareOp op) (r2Of K g)) (ho':OpR X (compareOp op') (r2Of K g')) (ha:DE X K E a ma) (hb:DE X K E b mb) (hc:DE X K E c mc) (hm:lastMarks [op,op'] [b,c]=false:=by with_unfolding_all rfl):
  DE X K E (.Compare a [op,op'] [b,c] pos) (DS.zHh g g' ma mb mc):=⟨(zOu ho ho' ha.h hb.h hc.h hm).imp zSu⟩
theorem zJb (ha:DT X K E a mt):DT X K E (.UnaryOp .Not a pos) (DS.tNot mt):=⟨(zUx ha.h).imp fun σ H Q hz5=>by obtain⟨env,S,J,ha,he,q⟩:=hz5;exact ⟨env,S,J,ha,he,q.bind.imp fun k S1 J1 H1 _ a1 g1 q1=>q1 J1 H1 a1 .refl⟩⟩
theorem zKo (ha:DT X K E a mt):DW X K E (.BoolOp .And [a] pos) mt:=⟨zR2 ha.h⟩
theorem zQ1 (ha:DT X K E a mt):DW X K E (.BoolOp .Or [a] pos) mt:=⟨zUt ha.h⟩
theorem zQ3 (ha:DT X K E a mt) (hb:DW X K E (.BoolOp .And (b::es) pos) mu):DW X K E (.BoolOp .And (a::b::es) pos) (DS.tAnd mt mu):=⟨(zUv ha.h hb.h).imp fun σ H Q ⟨env,S,J,ha,he,q⟩=>⟨env,S,J,ha,he,q.bind.imp fun k S1 J1 H1 _ a1 g1 q1=>by
 cases k with
 | true=>exact⟨env,S1,J1,a1,he.grow g1,q1⟩
 | false=>exact q1 J1 H1 a1 .refl⟩⟩
theorem zQ2 (ha:DT X K E a mt) (hb:DW X K E (.BoolOp .Or (b::es) pos) mu):DW X K E (.BoolOp .Or (a::b::es) pos) (DS.tOr mt mu):=⟨(zXy ha.h hb.h).imp fun σ H Q ⟨env,S,J,ha,he,q⟩=>⟨env,S,J,ha,he,q.bind.imp fun k S1 J1 H1 _ a1 g1 q1=>by
 cases k with
 | true=>exact q1 J1 H1 a1 .refl
 | false=>exact⟨env,S1,J1,a1,he.grow g1,q1⟩⟩⟩
theorem dt_w (h:DW X K E e mt):DT X K E e mt:=⟨zXw h.h⟩
theorem zZy (ha:DE X K E a ma) (hb:DE X K E (.BoolOp .And (b::es) pos) mb):DE X K E (.BoolOp .And (a::b::es) pos) (DS.eAnd ma mb):=⟨(zVk ha.h hb.h).imp fun σ H Q ⟨env,S,J,ha,he,q⟩=>⟨env,S,J,ha,he,q.bind.imp fun d S1 J1 H1 _ a1 g1 q1 x rx=>by
 obtain⟨k,e,z⟩:=q1.bind.lift
 have z:=z J1 H1 a1 .refl
 refine⟨k,zMe e rx,?_⟩
 cases k with
 | true=>exact⟨env,S1,J1,a1,he.grow g1,z⟩
 | false=>exact z J1 H1 a1 .refl _ rfl⟩⟩
theorem zTr {op:BoolOp}(ha:DE X K E a ma):DE X K E (.BoolOp op [a] pos) ma:=⟨zVb ha.h⟩
theorem zZx (ha:DE X K E a ma):DE X K E (.UnaryOp .Not a pos) (DS.eNot ma):=⟨(zVc ha.h).imp fun σ H Q ⟨env,S,J,ha,he,q⟩=>⟨env,S,J,ha,he,q.bind.imp fun d S1 J1 H1 _ a1 g1 q1 x rx=>by
 obtain⟨k,e,z⟩:=q1.bind.lift
 exact⟨k,zMe e rx,z J1 H1 a1 .refl J1 H1 a1 .refl _ rfl⟩⟩⟩
theorem yAv (hc:DT X K E c mt) (ha:DE X K E a ma) (hb:DE X K E b mb):DE X K E (.IfExp c a b pos) (DS.eIf mt ma mb):=⟨(zOt hc.h ha.h hb.h).imp fun σ H Q ⟨env,S,J,ha,he,q⟩=>⟨env,S,J,ha,he,q.bind.imp fun k S1 J1 H1 _ a1 g1 q1=>by
 cases k with
 | true=>exact⟨env,S1,J1,a1,he.grow g1,q1⟩
 | false=>exact⟨env,S1,J1,a1,he.grow g1,q1⟩⟩⟩
theorem zBj:DIf X K E [] DS.tYes:=⟨pifs_nil'.imp fun σ H Q hz6=>by obtain⟨env,S,J,ha,he,q⟩:=hz6;exact q J H ha .refl⟩
theorem zWt (h:DT X K E c mt):DIf X K E [c] mt:=⟨zOm h.h⟩
theorem zCg {J:Js}{H:Hp}{ds:List D}{xs:List V}(r:RepL K J H ds xs):decide (ds≠[])=!xs.isEmpty:=by
 cases ds with
 | nil=>cases r;simp
 | cons d ds=>obtain⟨x,t,rfl,_⟩:=r;simp
theorem zNs {J:Js}{S:Store}{H:Hp}{d:D}{v:V}{k:Bool}(ha:AbS K J S H) (r:Rep K J H d v) (h:DS.truth S d=some k):TruV K v H k:=by
 cases d with
 | non=>obtain rfl:=r;cases h;exact rfl
 | bl b=>obtain rfl:=r;cases h;exact rfl
 | int i=>
  obtain rfl:=r
  have h:=xE h
  subst h
  show decide (i≠0)=(i != 0)
  by_cases z:i=0 <;> simp[z]
 | str x=>
  obtain rfl:=r
  have h:(if x.length<=DS.most then some (decide (x.length≠0))else none)=some k:=h
  by_cases z:x.length<=DS.most
  ·rw[xc z]at h
   have h:=xE h
   subst h
   refine⟨z,?_⟩
   by_cases z:x.length=0 <;> simp[z]
  ·rw[xf z]at h;cases h
 | tup ds=>obtain⟨a,xs,rfl,t,rl⟩:=r;cases h;exact .inr (.inl ⟨xs,t.sq,zCg rl⟩)
 | ktup ds=>obtain⟨a,xs,rfl,t,rl⟩:=r;cases h;exact .inr (.inl ⟨xs,t.sq,zCg rl⟩)
 | klst ds=>obtain⟨a,xs,rfl,t,rl⟩:=r;cases h;exact .inl ⟨xs,t.sq,zCg rl⟩
 | lst ds=>obtain⟨a,xs,rfl,t,rl⟩:=r;cases h;exact .inl ⟨xs,t.sq,zCg rl⟩
 | ref n=>
  obtain⟨a,ea,rfl⟩:=r
  obtain⟨c,ec,o,eo,rc⟩:=ha.at ea
  have el:DS.look S (.ref n)=some c:=ec
  unfold DS.truth at h
  rw[el]at h
  cases c with
  | lst ds=>cases h;obtain⟨xs,rfl,rl⟩:=rc;exact .inl ⟨xs,.inl (.inl eo),zCg rl⟩
  | dct _ ks vs=>cases h
  | _=>exact False.elim rc
 | _=>cases h
theorem zFn (ha:DE X K E e m) (h:ntt e=true:=by rfl) (hK:X.K=K:=by rfl):DT X K E e (DS.tTru m):=by
 subst hK
 exact⟨(qtruth' ha.h h).imp fun σ H Q ⟨env,S,J,ha,he,q⟩=>⟨env,S,J,ha,he,q.bind.imp fun d S1 J1 H1 _ a1 g1 q1 x rx=>by
  obtain⟨k,e,z⟩:=q1.lift
  exact⟨k,zNs a1 rx e,z J1 H1 a1 .refl⟩⟩⟩
theorem RepE.set {J:Js}{H:Hp}{env:DS.Env}{σ:St}{d:D}{v:V}{i:Nat}(h:RepE K J H env σ) (r:Rep K J H d v):RepE K J H (env.set i (some d)) (σ.set i (some v)):=by
 refine⟨by simp[h.len],fun j d' e=>?_⟩
 by_cases hj:i=j
 ·subst hj
  have hi:i<env.length:=by
   have:=(xx.mp e).1
   simpa using this
  rw[vo hi]at e
  cases e
  exact⟨v,vo (by rw[<- h.len];exact hi),r⟩
 ·rw[xI hj]at e
  rw[xI hj]
  exact h.get j d' e
theorem zAd {j:Nat}{x:Str}(hN:X.N.Nodup) (hi:X.N[j]?=some x) (hx:Loc X.env.scope x) (hf:X.fn x=true\/X.env.scope.names.lookup x=some .local:=by first|exact .inl rfl|exact .inr rfl|assumption):DG X K (.Name x pos) (DS.gName j):=
 ⟨(zRi hN hi hx hf).imp fun v σ H Q ⟨env,S,J,d,env',ha,he,r,e,k⟩=>by
  cases e
  exact k _ (he.set r)⟩
theorem zC8:DGs X K [] []:=⟨pgs_nil'.imp fun v σ H Q ⟨env,S,J,ds,env',ha,he,r,e,k⟩=>by
 cases ds with
 | nil=>cases e;cases r;exact⟨rfl,k _ he⟩
 | cons d ds=>cases e⟩
theorem zAh {tg:Expr}{ts:List Expr}{g:DS.GM}{gs:List DS.GM}(h1:DG X K tg g) (h2:DGs X K ts gs) (h:nst tg=true:=by rfl):DGs X K (tg::ts) (g::gs):=⟨(qgs' h1.h h2.h h).imp fun v σ H Q ⟨env,S,J,ds,env',ha,he,r,e,k⟩=>by
 cases ds with
 | nil=>cases e
 | cons d ds=>
  obtain⟨x,xs,rfl,rx,rl⟩:=r
  unfold DS.gAll at e
  cases e1:g S d env with
  | none=>rw[e1]at e;cases e
  | some env1=>
   rw[e1]at e
   exact⟨x,xs,rfl,env,S,J,d,env1,ha,he,rx,e1,fun σ' he'=>⟨env1,S,J,ds,env',ha,he',rl,e,k⟩⟩⟩
theorem zE5:∀{gs:List DS.GM}{S:Store}{ds:List D}{env env':DS.Env},DS.gAll gs S ds env=some env'->ds.length=gs.length
 | [],_,[],_,_,_=>rfl
 | [],_,_::_,_,_,e=>by cases e
 | _::_,_,[],_,_,e=>by cases e
 | g::gs,S,d::ds,env,env',e=>by
  unfold DS.gAll at e
  cases e1:g S d env with
  | none=>rw[e1]at e;cases e
  | some env1=>rw[e1]at e;simp[zE5 e]
theorem SG.or {t u:TG}(h:SG X e t) (h':SG X e u):SG X e (fun v σ H Q=>t v σ H Q\/u v σ H Q):=⟨fun pins s σ H v w Q I r q=>by
 rcases q with q|q
 ·exact h.h pins s σ H v w Q I r q
 ·exact h'.h pins s σ H v w Q I r q⟩
theorem zDa {ts:List Expr}{k:Nat}{gs:List DS.GM}(hc:X.calm=true) (h:DGs X K ts gs) (hn:ts.length=gs.length:=by rfl) (h1:ts.all nst=true:=by rfl) (hK:X.K=K:=by rfl):DG X K (.Tuple ts k pos) (DS.gTup gs):=by
 subst hK
 refine⟨((qtup' (n:=gs.length) hc h.h hn h1).or (qunl' (n:=gs.length) hc h.h hn h1)).imp fun v σ H Q hq1=>?_⟩
 obtain⟨env,S,J,d,env',ha,he,r,e,k⟩:=hq1
 unfold DS.gTup DS.items DS.look at e
 cases d with
 | tup ds=>obtain⟨a,xs,rfl,t,rl⟩:=r;exact .inl ⟨a,xs,rfl,t.sq,by rw[<- rl.length];exact zE5 e,env,S,J,ds,env',ha,he,rl,e,k⟩
 | klst ds=>obtain⟨a,xs,rfl,t,rl⟩:=r;exact .inr ⟨a,xs,rfl,t.sq,by rw[<- rl.length];exact zE5 e,env,S,J,ds,env',ha,he,rl,e,k⟩
 | ktup ds=>obtain⟨a,xs,rfl,t,rl⟩:=r;exact .inl ⟨a,xs,rfl,t.sq,by rw[<- rl.length];exact zE5 e,env,S,J,ds,env',ha,he,rl,e,k⟩
 | lst ds=>obtain⟨a,xs,rfl,t,rl⟩:=r;exact .inr ⟨a,xs,rfl,t.sq,by rw[<- rl.length];exact zE5 e,env,S,J,ds,env',ha,he,rl,e,k⟩
 | ref n=>
  obtain⟨a,ea,rfl⟩:=r
  obtain⟨c,ec,o,eo,rc⟩:=ha.at ea
  simp only[ec]at e
  cases c with
  | lst ds=>obtain⟨xs,rfl,rl⟩:=rc;exact .inr ⟨a,xs,rfl,.inl (.inl eo),by rw[<- rl.length];exact zE5 e,env,S,J,ds,env',ha,he,rl,e,k⟩
  | dct _ ks vs=>cases e
  | _=>exact False.elim rc
 | _=>cases e
variable {st:Stmt}{sts:List Stmt}{ms mu' mv:DS.SM}
theorem zBi:DSs X K E [] DS.zBa:=⟨pss_nil'.imp fun D σ H hz7=>by obtain⟨env,S,J,ha,he,q⟩:=hz7;exact q J H σ ha .refl he⟩
theorem zA9 (h:DS1 X K E st ms):DSs X K E [st] ms:=⟨zR6 h.h⟩
theorem zA5 (h:DS1 X K E st ms) (k:DSs X K E sts mv):DSs X K E (st::sts) (DS.sSeq ms mv):=⟨(zOd h.h k.h).imp fun D σ H ⟨env,S,J,ha,he,q⟩=>⟨env,S,J,ha,he,by
 unfold DS.sSeq at q
 cases e:ms env S with
 | nx e1 S1=>rw[e]at q;exact fun J' H' σ' h1 g1 h2=>⟨e1,S1,J',h1,h2,PostS.grow g1 q⟩
 | _=>rw[e]at q;exact q⟩⟩
theorem zAi {j:Nat}{x:Str}{pos':Pos}(hN:X.N.Nodup) (hi:X.N[j]?=some x) (hx:Loc X.env.scope x) (he:DE X K E e m) (hf:X.fn x=true\/X.env.scope.names.lookup x=some .local:=by first|exact .inl rfl|exact .inr rfl|assumption) (h:nco e=true:=by rfl):
  DS1 X K E (.Assign [.Name x pos'] e pos) (DS.sSet j m):=⟨(qset' hN hi hx he.h hf h).imp fun D σ H hz8=>by obtain⟨env,S,J,ha,he,q⟩:=hz8;exact ⟨env,S,J,ha,he,q.then.imp fun d S1 J1 H1 _ a1 g1 q1 v rv=>q1 J1 H1 _ a1 .refl ((he.grow g1).set rv)⟩⟩
theorem zSm {j:Nat}{x:Str}{pos':Pos}(hN:X.N.Nodup) (hi:X.N[j]?=some x) (hx:Loc X.env.scope x) (he:DE X K E e m) (hsw:swapsWith e (some (.Name x pos')) pos.line X.env=pure false:=by rfl) (hf:X.fn x=true\/X.env.scope.names.lookup x=some .local:=by first|exact .inl rfl|exact .inr rfl|assumption):
  DS1 X K E (.Assign [.Name x pos'] e pos) (DS.sSet j m):=⟨(qsetk' hN hi hx he.h hsw hf).imp fun D σ H hz9=>by obtain⟨env,S,J,ha,he,q⟩:=hz9;exact ⟨env,S,J,ha,he,q.then.imp fun d S1 J1 H1 _ a1 g1 q1 v rv=>q1 J1 H1 _ a1 .refl ((he.grow g1).set rv)⟩⟩
theorem zT2 {g:DS.GM}:∀D σ H,tsOf K E (DS.sUnp g m) D σ H->tAsg (tOf K E m) (gOf K g) D σ H:=fun D σ H ⟨env,S,J,ha,he,q⟩=>⟨env,S,J,ha,he,q.then.imp fun d S1 J1 H1 _ a1 g1 q1 v rv=>by
 cases e1:g S1 d env with
 | none=>rw[e1]at q1;exact False.elim q1
 | some env'=>rw[e1]at q1;exact⟨env,S1,J1,d,env',a1,he.grow g1,rv,e1,fun σ' he'=>q1 J1 H1 σ' a1 .refl he'⟩⟩
theorem zGl {ts:List Expr}{k:Nat}{tp:Pos}{g:DS.GM}(he:DE X K E e m) (hg:DG X K (.Tuple ts k tp) g) (h1:ntu e=true:=by rfl):DS1 X K E (.Assign [.Tuple ts k tp] e pos) (DS.sUnp g m):=⟨(qasgt' he.h hg.h h1).imp zT2⟩
theorem zSl {ts:List Expr}{k:Nat}{tp:Pos}{g:DS.GM}(he:DE X K E e m) (hg:DG X K (.Tuple ts k tp) g) (hw:swappedStores [.Tuple ts k tp] e X.env=pure none:=by rfl):DS1 X K E (.Assign [.Tuple ts k tp] e pos) (DS.sUnp g m):=⟨(qasgn' he.h hg.h hw).imp zT2⟩
theorem zD3 (he:DE X K E e m) (h:nco e=true:=by rfl):DS1 X K E (.Expr e pos) (DS.zDh m):=⟨(qexpr' he.h h).imp fun D σ H hz0=>by obtain⟨env,S,J,ha,he,q⟩:=hz0;exact ⟨env,S,J,ha,he,q.then.imp fun d S1 J1 H1 _ a1 g1 q1 v rv=>q1 J1 H1 σ a1 .refl (he.grow g1)⟩⟩
theorem zAg (he:DE X K E e m):DS1 X K E (.Return (some e) pos) (DS.sRet m):=⟨(zV2 he.h).imp fun D σ H hz1=>by obtain⟨env,S,J,ha,he,q⟩:=hz1;exact ⟨env,S,J,ha,he,q.then.imp fun d S1 J1 H1 _ a1 g1 q1 v rv=>q1 J1 H1 v a1 .refl rv⟩⟩
theorem zCj {ba bb:List Stmt}(hc:DT X K E c mt) (ha:DSs X K E ba ms) (hb:DSs X K E bb mv):DS1 X K E (.If c ba bb pos) (DS.sIf mt ms mv):=⟨(zY4 hc.h ha.h hb.h).imp fun D σ H ⟨env,S,J,ha,he,q⟩=>⟨env,S,J,ha,he,q.then.imp fun k S1 J1 H1 _ a1 g1 q1=>by
 cases k with
 | true=>exact⟨env,S1,J1,a1,he.grow g1,q1⟩
 | false=>exact⟨env,S1,J1,a1,he.grow g1,q1⟩⟩⟩
theorem zG4 {x y:Str}{px py pt pt2:Pos}{kt k2 i j:Nat}{am:DS.AM}(hc:X.calm=true) (hN:X.N.Nodup) (hi:X.N[i]?=some x) (hj:X.N[j]?=some y) (hij:i≠j)
  (hx:X.env.scope.names.lookup x=some .local) (hy:X.env.scope.names.lookup y=some .local) (ha:DA X K E [a,b] am)
  (hw:swappedStores [.Tuple [.Name x px,.Name y py] kt pt] (.Tuple [a,b] k2 pt2) X.env=pure (some [x,y])):
  DS1 X K E (.Assign [.Tuple [.Name x px,.Name y py] kt pt] (.Tuple [a,b] k2 pt2) pos) (DS.sPar [i,j] am):=⟨(qpar' hc hN hi hj hij hx hy ha.h hw).imp fun D σ H ⟨env,S,J,h,he,q⟩=>⟨env,S,J,h,he,q.then.imp fun ds S1 J1 H1 e1 a1 g1 q1 vs rv=>by
 have hl:=ha.len _ _ _ _ e1
 match ds,hl with
 | [d1,d2],_=>
  obtain⟨v1,r1,rfl,rv1,v2,r2,rfl,rv2,rfl⟩:=rv
  exact⟨v1,v2,rfl,q1 J1 H1 _ a1 .refl (((he.grow g1).set rv1).set rv2)⟩⟩⟩
theorem zDn {body:List Stmt}(hp:PassesOwn (model X.prog X.w) X.A X.env X.xe) (hc:DT X K E c mt) (hb:DSs X K E body ms):DS1 X K E (.While c body [] pos) (DS.zBo mt ms):=⟨(zOe hp hc.h hb.h).imp fun D σ H ⟨env,S,J,ha,he,q⟩=>by
 unfold DS.zBo at q
 by_cases hx:∃n,DS.zAr mt ms n env S≠.bad
 ·rw[dif_pos hx]at q
  generalize Classical.choose hx=n at q
  refine⟨fun n σ H=>∃env S J,AbS K J S H/\RepE K J H env σ/\PostS K E J H (DS.zAr mt ms n env S) D,⟨n,env,S,J,ha,he,q⟩,?_⟩
  rintro m σ H ⟨env,S,J,ha,he,q⟩
  cases m with
  | zero=>exact False.elim q
  | succ m=>
   refine⟨env,S,J,ha,he,(PostS.then (r:=mt env S) (by unfold DS.zAr at q;exact q)).imp fun k S1 J1 H1 _ a1 g1 q1=>?_⟩
   cases k with
   | false=>exact q1 J1 H1 σ a1 .refl (he.grow g1)
   | true=>
    rw[xc rfl]at q1 ⊢
    refine⟨fun σ H=>∃env S J,AbS K J S H/\RepE K J H env σ/\PostS K E J H (DS.zAr mt ms m env S) D,fun σ' H' w=>⟨m,Nat.lt_succ_self m,w⟩,env,S1,J1,a1,he.grow g1,?_⟩
    cases e:ms env S1 with
    | nx e1 S2=>rw[e]at q1;exact fun J' H' σ' h1 g2 h2=>⟨e1,S2,J',h1,h2,PostS.grow g2 q1⟩
    | ct e1 S2=>rw[e]at q1;exact fun J' H' σ' h1 g2 h2=>⟨e1,S2,J',h1,h2,PostS.grow g2 q1⟩
    | _=>rw[e]at q1;exact q1
 ·rw[dif_neg hx]at q;exact False.elim q⟩
theorem zM3 {α:Type}{l:List α}{i:Nat}(h:i<l.length):l.drop i=l[i]::l.drop (i+1):=List.drop_eq_getElem_cons h
theorem zD2 {tg iter:Expr}{body:List Stmt}{im:DS.IM}{g:DS.GM}(hp:PassesOwn (model X.prog X.w) X.A X.env X.xe) (hc:X.calm=true) (hi:DI X K E tg iter im) (hg:DG X K tg g) (hb:DSs X K E body ms) (h:nse iter=true:=by rfl):
  DS1 X K E (.For tg iter body [] pos) (DS.sFor im g ms):=⟨(qfor' hp hc hi.h hg.h hb.h h).imp fun D σ H ⟨env,S,J,ha,he,q⟩=>⟨env,S,J,ha,he,q.then.imp fun w S1 J1 H1 _ a1 g1 q1 I ok=>by
 refine⟨fun i m σ H=>m+i=w.its.length/\∃env S J,AbS K J S H/\Grow J1 H1 J H/\RepE K J H env σ/\PostS K E J H (DS.forL w.gd g ms (w.its.drop i) env S) D,⟨w.its.length,rfl,env,S1,J1,a1,.refl,he.grow g1,q1⟩,?_⟩
 rintro i m σ H ⟨hm,env,S,J,ha,gr,he,q⟩
 by_cases hi:i<w.its.length
 ·rw[zM3 hi]at q
  unfold DS.forL at q
  by_cases gd:DS.gOk S w.gd
  ·rw[xc gd]at q
   refine .inr ⟨ok.go i H J S ha gr gd hi,fun σ H=>(m-1)+(i+1)=w.its.length/\∃env S J,AbS K J S H/\Grow J1 H1 J H/\RepE K J H env σ/\PostS K E J H (DS.forL w.gd g ms (w.its.drop (i+1)) env S) D,fun σ' H' wq=>⟨m-1,by nofun,wq⟩,fun x H' y=>?_⟩
   obtain⟨a2,g2,rx⟩:=ok.yld i H J S x H' ha gr gd y _ (xp hi)
   cases eg:g S w.its[i] env with
   | none=>rw[eg]at q;exact False.elim q
   | some env'=>
    rw[eg]at q
    refine⟨env,S,J,w.its[i],env',a2,he.grow g2,rx,eg,fun σ2 he2=>⟨env',S,J,a2,he2,?_⟩⟩
    simp only at q
    cases e:ms env' S with
    | nx e1 S2=>rw[e]at q;exact fun J' H' σ' h1 g3 h2=>⟨by nofun,e1,S2,J',h1,gr.trans (g2.trans g3),h2,PostS.grow (g2.trans g3) q⟩
    | ct e1 S2=>rw[e]at q;exact fun J' H' σ' h1 g3 h2=>⟨by nofun,e1,S2,J',h1,gr.trans (g2.trans g3),h2,PostS.grow (g2.trans g3) q⟩
    | bk e1 S2=>rw[e]at q;exact fun J' H' σ' h1 g3 h2=>q J' H' σ' h1 (g2.trans g3) h2
    | rt e1 S2=>rw[e]at q;exact fun J' H' σ' h1 g3 h2=>q J' H' σ' h1 (g2.trans g3) h2
    | ex e1 S2=>rw[e]at q;exact fun J' H' h1 g3=>q J' H' h1 (g2.trans g3)
    | bad=>rw[e]at q;exact q
  ·rw[xf gd]at q;exact False.elim q
 ·have e0:w.its.drop i=[]:=List.drop_eq_nil_of_le (by nofun)
  rw[e0]at q
  unfold DS.forL at q
  by_cases gd:DS.gOk S w.gd
  ·rw[xc gd]at q
   exact .inl ⟨ok.stop i H J S ha gr gd (by nofun),q J H σ ha .refl he⟩
  ·rw[xf gd]at q;exact False.elim q⟩⟩
theorem zNd {J:Js}{H:Hp}{env:DS.Env}{σ:St}{own:List Str}{ix:List Nat}(he:RepE K J H env σ):RepE K J H (DS.compEnv own.length ix env) (zEd own ix σ):=by
 refine⟨by simp[DS.compEnv,zEd],fun i d e=>?_⟩
 unfold DS.compEnv at e
 unfold zEd
 by_cases hi:i<own.length
 ·rw[xX (by simpa using hi),List.getElem?_replicate,xc hi]at e
  cases e
 ·rw[vq (by simpa using hi),xK]at e
  rw[vq (by simpa using hi),xK]
  simp only[List.length_replicate,xn]at e ⊢
  cases ej:ix[i-own.length]? with
  | none=>rw[ej]at e;cases e
  | some j=>
   rw[ej]at e
   simp only[vz,Option.some.injEq]at e ⊢
   cases en:env[j]? with
   | none=>rw[en]at e;cases e
   | some o=>
    rw[en]at e
    obtain⟨v,ev,r⟩:=he.get j d (by rw[en];exact congrArg some e)
    exact⟨v,by rw[ev];rfl,r⟩
theorem zM8 {own:List Str}{ix:List Nat}{im:DS.IM}{g:DS.GM}:∀σ H Q,tOfF K E (DS.zAt own.length ix im g mt m) σ H Q->zK2 own ix (iOf K E im) (gOf K g) (ttOf K E mt) (tOf K E m) σ H Q:=by
 refine fun σ H Q ⟨env,St,J,ha,hE,q⟩=>⟨env,St,J,ha,hE,q.bind.imp fun w S1 J1 H1 _ a1 g1 q1 I ok=>?_⟩
 refine⟨fun i k ys σ H=>k+i=w.its.length/\∃env S J ds,AbS K J S H/\Grow J1 H1 J H/\RepE K J H env σ/\RepL K J H ds ys/\Post K E J H (DS.zDc w.gd g mt m ys.length (w.its.drop i) env S) (fun vs S2 J2 H2=>∀p o,H2 p=none->ObD K J2 H2 (.lst (ds++vs)) o->Q (.ref p) (upd H2 p o)),
  ⟨w.its.length,rfl,_,S1,J1,[],a1,.refl,zNd (hE.grow g1),rfl,q1.bind.imp fun vs S2 J2 H2 _ a2 g2 q2=>q2 J2 H2 a2 .refl⟩,?_⟩
 rintro i k ys σ H ⟨hk,env,S,J,ds,ha,gr,hE,rl,q⟩
 by_cases hi:i<w.its.length
 ·rw[zM3 hi]at q
  unfold DS.zDc at q
  by_cases gd:DS.gOk S w.gd/\ys.length<DS.most
  ·rw[xc gd]at q
   refine .inr ⟨ok.go i H J S ha gr gd.1 hi,gd.2,fun ys σ H=>(k-1)+(i+1)=w.its.length/\∃env S J ds,AbS K J S H/\Grow J1 H1 J H/\RepE K J H env σ/\RepL K J H ds ys/\Post K E J H (DS.zDc w.gd g mt m ys.length (w.its.drop (i+1)) env S) (fun vs S2 J2 H2=>∀p o,H2 p=none->ObD K J2 H2 (.lst (ds++vs)) o->Q (.ref p) (upd H2 p o)),
    fun zs σ' H' wq=>⟨k-1,by nofun,wq⟩,fun x H' y=>?_⟩
   obtain⟨a2,g2,rx⟩:=ok.yld i H J S x H' ha gr gd.1 y _ (xp hi)
   cases eg:g S w.its[i] env with
   | none=>rw[eg]at q;exact False.elim q
   | some env'=>
    rw[eg]at q
    refine⟨env,S,J,w.its[i],env',a2,hE.grow g2,rx,eg,fun σ2 he2=>⟨env',S,J,a2,he2,(Post.grow g2 q).bind.imp fun b S3 J3 H3 _ a3 g3 q3=>?_⟩⟩
    cases b with
    | false=>exact⟨by nofun,env',S3,J3,ds,a3,gr.trans (g2.trans g3),he2.grow g3,RepL.grow (g2.trans g3) _ _ rl,q3⟩
    | true=>
     rw[xc rfl]at q3 ⊢
     refine⟨env',S3,J3,a3,he2.grow g3,q3.bind.imp fun d4 S4 J4 H4 _ a4 g4 q4 v rv=>?_⟩
     have g24:=g2.trans (g3.trans g4)
     refine⟨by nofun,env',S4,J4,ds++[d4],a4,gr.trans g24,he2.grow (g3.trans g4),(RepL.grow g24 _ _ rl).snoc rv,?_⟩
     rw[show(ys++[v]).length=ys.length+1 by simp]
     refine q4.bind.imp fun vs S5 J5 H5 _ a5 g5 q5=>?_
     have:=q5 J5 H5 a5 .refl
     rw[List.append_assoc]
     exact this
  ·rw[xf gd]at q;exact False.elim q
 ·have e0:w.its.drop i=[]:=List.drop_eq_nil_of_le (by nofun)
  rw[e0]at q
  unfold DS.zDc at q
  by_cases gd:DS.gOk S w.gd
  ·rw[xc gd]at q
   have q2:∀(p:Addr) (o:HO),H p=none->ObD K J H (.lst (ds++[])) o->Q (.ref p) (upd H p o):=q J H ha .refl
   rw[List.append_nil]at q2
   exact .inl ⟨ok.stop i H J S ha gr gd (by nofun),fun p n=>q2 p (.lst ys) n ⟨ys,rfl,rl⟩⟩
  ·rw[xf gd]at q;exact False.elim q
theorem of_imp:∀σ H Q,tOf K E m σ H Q->tOfF K E m σ H Q:=fun σ H Q hz2=>by obtain⟨env,S,J,ha,he,q⟩:=hz2;exact ⟨env,S,J,ha,he,q.map fun d S' J' H' _ h1 g k p o n r=>k J' (upd H' p o) (h1.push n) (g.trans (.push n)) (.ref p) (r.rep h1 n)⟩
theorem zUm {j:Nat}:∀D σ H,tsOf K E (DS.sSet j m) D σ H->tOf K E m σ H (fun x H1=>gName j x σ H1 D.nx):=fun D σ H hz3=>by obtain⟨env,S,J,ha,he,q⟩:=hz3;exact ⟨env,S,J,ha,he,q.then.imp fun d S1 J1 H1 _ a1 g1 q1 v rv=>q1 J1 H1 _ a1 .refl ((he.grow g1).set rv)⟩
theorem zC9 {own fre:List Str}{ix:List Nat}{n:Nat}{scope:Scope}{tg elt iter:Expr}{ifs:List Expr}{im:DS.IM}{g:DS.GM}(hc:X.calm=true) (S:CompScope X own fre ix scope) (hi:DI X K E tg iter im)
  (hg:∀cl C s H fp,DG (zAn X (own++fre) scope cl C s H fp) K tg g) (ht:∀cl C s H fp,DIf (zAn X (own++fre) scope cl C s H fp) K E ifs mt) (he:∀cl C s H fp,DE (zAn X (own++fre) scope cl C s H fp) K E elt m)
  (hn:own.length=n:=by rfl) (h:nse iter=true:=by rfl):DF X K E (.ListComp elt [⟨tg,iter,ifs,0⟩] scope pos) (DS.zAt n ix im g mt m):=by
 subst hn
 exact⟨(qlcomp' hc S hi.h (fun _ _ _ _ _=>(hg _ _ _ _ _).h) (fun _ _ _ _ _=>(ht _ _ _ _ _).h) (fun _ _ _ _ _=>(he _ _ _ _ _).h) h).imp zM8⟩
theorem zG3 {own fre:List Str}{ix:List Nat}{n:Nat}{scope:Scope}{j:Nat}{x:Str}{cpos pos':Pos}{tg elt iter:Expr}{ifs:List Expr}{im:DS.IM}{g:DS.GM}(hN:X.N.Nodup) (hix:X.N[j]?=some x) (hx:Loc X.env.scope x)
  (hc:X.calm=true) (S:CompScope X own fre ix scope) (hi:DI X K E tg iter im)
  (hg:∀cl C s H fp,DG (zAn X (own++fre) scope cl C s H fp) K tg g) (ht:∀cl C s H fp,DIf (zAn X (own++fre) scope cl C s H fp) K E ifs mt) (he:∀cl C s H fp,DE (zAn X (own++fre) scope cl C s H fp) K E elt m)
  (hsw:swapsWith (.ListComp elt [⟨tg,iter,ifs,0⟩] scope cpos) (some (.Name x pos')) pos.line X.env=pure true:=by rfl) (h:nse iter=true:=by rfl) (hf:X.fn x=true\/X.env.scope.names.lookup x=some .local:=by first|exact .inl rfl|exact .inr rfl|assumption) (hn:own.length=n:=by rfl):
  DS1 X K E (.Assign [.Name x pos'] (.ListComp elt [⟨tg,iter,ifs,0⟩] scope cpos) pos) (DS.sSet j (DS.zAt n ix im g mt m)):=by
 subst hn
 exact⟨(qsetc' hN hix hx hc S hi.h (fun _ _ _ _ _=>(hg _ _ _ _ _).h) (fun _ _ _ _ _=>(ht _ _ _ _ _).h) (fun _ _ _ _ _=>(he _ _ _ _ _).h) hsw h hf).imp fun D σ H h=>zM8 σ H _ (of_imp σ H _ (zUm D σ H h))⟩
end
section
variable {P:Program}{w:World}{K:PySem.W.Frag}{mg:Str->Option Value}{base:Heap}
theorem zJj {E:XE}{J:Js}{H:Hp}{np nl:Nat}{b:DS.SM}{ds:List D}{S:Store}{P:D->Store->Js->Hp->Prop}(h:Post K E J H (DS.zB0 np nl b ds S) P):ds.length=np:=by
 unfold DS.zB0 at h
 by_cases e:ds.length=np
 ·exact e
 ·rw[xf e]at h;exact False.elim h
theorem zL7 {J:Js}{H:Hp}{ds:List D}{vs:List V}{N:List Str}(r:RepL K J H ds vs):RepE K J H (ds.map some++List.replicate (N.length-ds.length) none) (start N vs):=by
 refine⟨by simp[start,r.length],fun i d e=>?_⟩
 unfold start
 by_cases hi:i<ds.length
 ·rw[xX (by simpa using hi),xK]at e
  rw[xX (by simpa[<- r.length]using hi),xK]
  cases ed:ds[i]? with
  | none=>rw[ed]at e;cases e
  | some d'=>
   rw[ed]at e;cases e
   obtain⟨x,ex,rx⟩:=r.get ed
   exact⟨x,by rw[ex];rfl,rx⟩
 ·rw[vq (by simpa using hi),List.getElem?_replicate]at e
  split at e <;> cases e
theorem zX0 {J:Js}{H:Hp}{np:Nat}{N:List Str}{b:DS.SM}{ds:List D}{vs:List V}{S:Store}{Q:VK}(ha:AbS K J S H) (r:RepL K J H ds vs)
  (h:Post K XE0 J H (DS.zB0 np N.length b ds S) (fun d _ J' H'=>∀v,Rep K J' H' d v->Q v H')):tsOf K XE0 b { nx:=fun _ H'=>Q .non H',rt:=Q } (start N vs) H:=by
 have hl:=zJj h
 unfold DS.zB0 at h
 rw[xc hl,<- hl]at h
 refine⟨_,S,J,ha,zL7 r,?_⟩
 have fin:∀d S' J' H' v,AbS K J' S' H'->Grow J H J' H'->Rep K J' H' d v->Post K XE0 J H (DS.fin S d S') (fun d _ J' H'=>∀v,Rep K J' H' d v->Q v H')->Q v H':=fun d S' J' H' v a1 g1 r1 q=>by
  cases e:DS.fin S d S' with
  | ok d2 S2=>
   obtain⟨J2,a2,g2,r2⟩:=zZq ha g1 a1 r1 e
   rw[e]at q
   exact q J2 H' a2 g2 v r2
  | ex x S2=>rw[e]at q;exact False.elim (q J' H' (by
    exfalso
    unfold DS.fin at e
    split at e <;> try cases e
    split at e <;> try cases e
    split at e <;> try cases e
    split at e <;> try cases e
    split at e <;> cases e) g1)
  | bad=>rw[e]at q;exact False.elim q
 cases e:b (ds.map some++List.replicate (N.length-ds.length) none) S with
 | nx e1 S1=>rw[e]at h;exact fun J' H' σ h1 g1 _=>fin .non S1 J' H' .non h1 g1 rfl h
 | rt d S1=>rw[e]at h;exact fun J' H' v h1 g1 r1=>fin d S1 J' H' v h1 g1 r1 h
 | bk e1 S1=>rw[e]at h;exact False.elim h
 | ct e1 S1=>rw[e]at h;exact False.elim h
 | ex x S1=>rw[e]at h;exact h
 | bad=>rw[e]at h;exact False.elim h
theorem fn_d {k:Nat}{x qual:Str}{st:Stmt}{f:Addr}{fd:FuncData}{N ps:List Str}{np nl:Nat}{b:DS.SM}(F:Fun K x qual st f fd) (Sc:zAk N ps (zA6 st)) (hnp:ps.length=np) (hnl:N.length=nl)
  (hb:∀(cdv:Value) (A:Around) (outer:List PySem.Env) (s:Shared) (H:Hp) (E:XK),Room k (A.deeper (envOfC qual (zA6 st) s.heap.objs.size f cdv))->DSs (cxOf CX0 P w K mg base N qual (zA6 st) f cdv A outer s H E).nox K XE0 (zD4 st) b):
  FnOk P w K mg base CX0 (k+1) f fd ps (spOf K XE0 (DS.zB0 np nl b)):=by
 subst hnp hnl
 refine F.ok (k:=k) Sc (fun vs H Q E h=>?_) (fun cdv A outer s H vs Q E hr h=>?_)
 ·obtain⟨J,S,ds,ha,r,q⟩:=h
  rw[<- r.length];exact zJj q
 ·obtain⟨J,S,ds,ha,r,q⟩:=h
  exact⟨_,(hb cdv A outer s H E hr).h.h,zX0 ha r q⟩
theorem zSy {J:Js}{H:Hp}{np:Nat}{N:List Str}{b:DS.SM}{ds:List D}{vs:List V}{S:Store}{Q:VK}(hl:ds.length=np) (ha:AbS K J S H) (r:RepL K J H ds vs)
  (h:Post K XE0 J H (DS.zIk np N.length b ds S) (fun d _ J' H'=>∀v,Rep K J' H' d v->Q v H')):tsOf K XE0 b { nx:=fun _ H'=>Q .non H',rt:=Q } (start N vs) H:=by
 unfold DS.zIk at h
 rw[xc hl,<- hl]at h
 refine⟨_,S,J,ha,zL7 r,?_⟩
 cases e:b (ds.map some++List.replicate (N.length-ds.length) none) S with
 | nx e1 S1=>rw[e]at h;exact fun J' H' σ h1 g1 _=>h J' H' h1 g1 .non rfl
 | rt d S1=>rw[e]at h;exact fun J' H' v h1 g1 r1=>h J' H' h1 g1 v r1
 | bk e1 S1=>rw[e]at h;exact False.elim h
 | ct e1 S1=>rw[e]at h;exact False.elim h
 | ex x S1=>rw[e]at h;exact h
 | bad=>rw[e]at h;exact False.elim h
theorem fn_r {k:Nat}{x qual:Str}{st:Stmt}{f:Addr}{fd:FuncData}{N ps:List Str}{np nl:Nat}{b:DS.SM}(F:Fun K x qual st f fd) (Sc:zAk N ps (zA6 st)) (hnp:ps.length=np) (hnl:N.length=nl)
  (hb:∀(cdv:Value) (A:Around) (outer:List PySem.Env) (s:Shared) (H:Hp) (E:XK),Room k (A.deeper (envOfC qual (zA6 st) s.heap.objs.size f cdv))->DSs (cxOf CX0 P w K mg base N qual (zA6 st) f cdv A outer s H E).nox K XE0 (zD4 st) b):
  FnOk P w K mg base CX0 (k+1) f fd ps (spOf K XE0 (DS.zIk np nl b)):=by
 subst hnp hnl
 have cl:∀{J:Js}{H:Hp}{ds:List D}{S:Store}{P:D->Store->Js->Hp->Prop},Post K XE0 J H (DS.zIk ps.length N.length b ds S) P->ds.length=ps.length:=fun {J H ds S P} h=>by
  unfold DS.zIk at h
  by_cases e:ds.length=ps.length
  ·exact e
  ·rw[xf e]at h;exact False.elim h
 refine F.ok (k:=k) Sc (fun vs H Q E h=>?_) (fun cdv A outer s H vs Q E hr h=>?_)
 ·obtain⟨J,S,ds,ha,r,q⟩:=h
  rw[<- r.length];exact cl q
 ·obtain⟨J,S,ds,ha,r,q⟩:=h
  exact⟨_,(hb cdv A outer s H E hr).h.h,zSy (cl q) ha r q⟩
end
end L2
namespace DS
open PySem (Str)
noncomputable section
open Classical
noncomputable def big:Nat:=2 ^ 5000
noncomputable def sm (x:Int):Prop:=x.natAbs<big
theorem zNz {x:Int}(h1:-(2 ^ 200)<x) (h2:x<2 ^ 200):sm x:=by
 have h:(2:Nat) ^ 200<=big:=uX (by decide) (by decide)
 have e:((2 ^ 200:Nat):Int)=2 ^ 200:=by norm_cast
 unfold sm
 lia
noncomputable def addD (S:Store) (x y:D):Option D:=match x,y with
 | .int a,.int b=>some (.int (a+b))
 | .str a,.str b=>if a.length+b.length<=most then some (.str (a++b))else none
 | .tup l,.tup m=>if l≠[]/\l.length+m.length<=most then some (.tup (l++m))else none
 | x,y=>match litems S x,litems S y with
  | some l,some m=>if l.length+m.length<=most then some (.lst (l++m))else none
  | _,_=>none
noncomputable def catD (S:Store) (x y:D):Option D:=match litems S x,litems S y with
 | some l,some m=>if l.length+m.length<=most then some (.lst (l++m))else none
 | _,_=>none
noncomputable def subD (_:Store) (x y:D):Option D:=match x,y with
 | .int a,.int b=>some (.int (a-b))
 | _,_=>none
noncomputable def mulD (S:Store) (x y:D):Option D:=match x,y with
 | .int a,.int b=>if sm a/\sm b then some (.int (a*b))else none
 | _,_=>none
noncomputable def zGj (_:Store) (x y:D):Option D:=match x,y with
 | .int a,.int b=>if b≠0/\sm b then some (.int (a.fdiv b))else none
 | _,_=>none
noncomputable def modD (_:Store) (x y:D):Option D:=match x,y with
 | .int a,.int b=>if 0<b then some (.int (a % b))else none
 | _,_=>none
noncomputable def powD (_:Store) (x y:D):Option D:=match x,y with
 | .int a,.int b=>if 0<=b/\b<=1000000/\a.natAbs<2 ^ 64 then some (.int (a ^ b.toNat))else none
 | _,_=>none
noncomputable def negD (_:Store) (x:D):Option D:=match x with
 | .int a=>some (.int (-a))
 | _=>none
noncomputable def iLt (p:Int->Int->Bool) (q:List Nat->List Nat->Bool) (x y:D):Option D:=match x,y with
 | .int a,.int b=>some (.bl (p a b))
 | .str a,.str b=>some (.bl (q a.cps.toList b.cps.toList))
 | _,_=>none
noncomputable def leD (_:Store) (x y:D):Option D:=iLt (fun a b=>decide (a<=b)) (fun a b=>!decide (b<a)) x y
noncomputable def gtD (_:Store) (x y:D):Option D:=match x,y with
 | .int a,.int b=>some (.bl (decide (b<a)))
 | _,_=>none
noncomputable def geD (_:Store) (x y:D):Option D:=match x,y with
 | .int a,.int b=>some (.bl (decide (b<=a)))
 | _,_=>none
noncomputable def ixN (n:Nat) (i:Int):Option Nat:=if 0<=i then(if i<n then some i.toNat else none)else if -(n:Int)<=i then some (i+n).toNat else none
noncomputable def atL {α:Type}(xs:List α) (i:Int):Option α:=(ixN xs.length i).bind fun j=>xs[j]?
noncomputable def look2 (ks vs:List D) (k:D):Option D:=match ks,vs with
 | a::r,v::t=>if a=k then some v else look2 r t k
 | _,_=>none
noncomputable def isKey:D->Bool
 | .int _=>true
 | .str _=>true
 | .tup l=>l.all fun d=>match d with
  | .int _=>true
  | .str _=>true
  | _=>false
 | _=>false
noncomputable def zFm (t:Bool) (k:D):Bool:=isKey k && (match k with
 | .tup _=>t
 | _=>!t)
noncomputable def ixD (S:Store) (x y:D):Option D:=match look S x,y with
 | some (.tup l),.int i=>atL l i
 | some (.lst l),.int i=>atL l i
 | some (.dct false ks vs),k=>if zFm false k=true then look2 ks vs k else none
 | _,_=>none
noncomputable def sIx (n d:Nat):Option Int->Nat
 | none=>d
 | some v=>if v<0 then(v+(n:Int)).toNat else min v.toNat n
noncomputable def cutL {α:Type}(xs:List α) (lo hi:Option Int):List α:=(xs.drop (sIx xs.length 0 lo)).take (sIx xs.length xs.length hi-sIx xs.length 0 lo)
noncomputable def slD (S:Store) (x:D) (lo hi:Option Int):Option D:=match x with
 | .tup l=>some (.tup (cutL l lo hi))
 | x=>match look S x with
  | some (.lst l)=>some (.lst (cutL l lo hi))
  | _=>none
noncomputable def revL (S:Store) (x:D):Option D:=match look S x with
 | some (.lst l)=>some (.lst l.reverse)
 | _=>none
noncomputable def repl2:List D->List D->D->D->List D
 | a::r,w::t,k,v=>(if a=k then v else w)::repl2 r t k v
 | _,_,_,_=>[]
noncomputable def put2 (ks vs:List D) (k v:D):List D × List D:=if k∈ks then(ks,repl2 ks vs k v)else(ks++[k],vs++[v])
noncomputable def lenB (S:Store):List D->Option D
 | [d]=>match look S d with
  | some (.tup l)=>some (.int l.length)
  | some (.lst l)=>some (.int l.length)
  | _=>none
 | _=>none
noncomputable def zJ3 (S:Store):List D->Option D
 | [d]=>(items S d).map D.lst
 | _=>none
noncomputable def zEm (S:Store):List D->Option D
 | [d]=>match d with
  | .tup l=>some (.tup l)
  | .ktup l=>some (.ktup l)
  | d=>(litems S d).map D.tup
 | _=>none
noncomputable def bools:List D->Option (List Bool)
 | []=>some []
 | .bl b::r=>(bools r).map (b::·)
 | _=>none
noncomputable def allB (S:Store):List D->Option D
 | [d]=>((litems S d).bind bools).map fun bs=>.bl (bs.all id)
 | _=>none
noncomputable def max2B (_:Store):List D->Option D
 | [.int i,.int j]=>some (.int (if j > i then j else i))
 | _=>none
noncomputable def absB (_:Store):List D->Option D
 | [.int i]=>some (.int (if i<0 then -i else i))
 | _=>none
noncomputable def zB7 (S:Store) (o:D) (xs:List D):Option (D × Store):=match o,xs with
 | .ref n,[v]=>match S[n]? with
  | some (.lst l)=>if l.length<most then some (.non,S.set n (.lst (l++[v])))else none
  | _=>none
 | _,_=>none
noncomputable def popM (S:Store) (o:D) (xs:List D):Option (D × Store):=match o,xs with
 | .ref n,[]=>match S[n]? with
  | some (.lst l)=>(l[l.length-1]?).map fun v=>(v,S.set n (.lst l.dropLast))
  | _=>none
 | _,_=>none
end
end DS
namespace L2
open PySem PySem.Spec PyProof.Rows
open DS (D Store Exn Rs SR)
section
variable {X:Cx}{K:PySem.W.Frag}{E:XE}{J:Js}{S:Store}{H:Hp}{d d1 d2:D}{v:V}
theorem Inv.lstR {pins:List (Addr × Obj)}{σ:St}{s:Shared}{l:Addr}{xs:List V}(I:Inv X pins σ H s) (hH:Rd H l (.lst xs)):xs.length<=sizeLine/\∃(its:List Value) (n:Nat),Vals xs its/\xs.length=its.length/\s.heap.get? l=some { cls:=.type "list",data:=.seq its.toArray n }:=by
 obtain⟨z,its,n,r,e⟩:=hH.ok I.hok
 exact⟨z,its,n,r,r.length,e⟩
theorem zDj {l:List D}(ha:AbS K J S H) (r:Rep K J H d v) (e:DS.litems S d=some l):∃a xs,v=.ref a/\Rd H a (.lst xs)/\RepL K J H l xs:=by
 cases d with
 | lst ds=>cases e;obtain⟨a,xs,rfl,t,rl⟩:=r;exact⟨a,xs,rfl,.inl t.1,rl⟩
 | ref n=>
  obtain⟨a,ea,rfl⟩:=r
  obtain⟨c,ec,o,eo,rc⟩:=ha.at ea
  unfold DS.litems DS.look at e
  simp only[ec]at e
  cases c with
  | lst ds=>cases e;obtain⟨xs,rfl,rl⟩:=rc;exact⟨a,xs,rfl,.inl eo,rl⟩
  | dct _ ks vs=>cases e
  | _=>exact False.elim rc
 | _=>cases e
theorem zIa {l:List D}(ha:AbS K J S H) (r:Rep K J H d v) (e:DS.items S d=some l):∃a xs,v=.ref a/\(SqL K H a xs\/SqT K H a xs)/\RepL K J H l xs:=by
 cases d with
 | tup ds=>cases e;obtain⟨a,xs,rfl,t,rl⟩:=r;exact⟨a,xs,rfl,.inr t.sq,rl⟩
 | ktup ds=>cases e;obtain⟨a,xs,rfl,t,rl⟩:=r;exact⟨a,xs,rfl,.inr t.sq,rl⟩
 | klst ds=>cases e;obtain⟨a,xs,rfl,t,rl⟩:=r;exact⟨a,xs,rfl,.inl t.sq,rl⟩
 | lst ds=>cases e;obtain⟨a,xs,rfl,t,rl⟩:=r;exact⟨a,xs,rfl,.inl t.sq,rl⟩
 | ref n=>
  obtain⟨a,ea,rfl⟩:=r
  obtain⟨c,ec,o,eo,rc⟩:=ha.at ea
  unfold DS.items DS.look at e
  simp only[ec]at e
  cases c with
  | lst ds=>cases e;obtain⟨xs,rfl,rl⟩:=rc;exact⟨a,xs,rfl,.inl (.inl (.inl eo)),rl⟩
  | dct _ ks vs=>cases e
  | _=>exact False.elim rc
 | _=>cases e
theorem zB1:OpR X (binaryOp .Sub) (r2Of K DS.subD):=by
 intro pins s σ H x y v u Q I rx ry ⟨J,S,d1,d2,d,ha,r1,r2,e,k⟩
 unfold DS.subD at e
 split at e
 ·cases e;obtain rfl:=r1;obtain rfl:=r2
  exact zYp pins s σ H _ _ v u Q I rx ry ⟨_,_,rfl,rfl,k _ H ha .refl rfl⟩
 ·cases e
theorem zAf:OpR X (binaryOp .Mult) (r2Of K DS.mulD):=by
 intro pins s σ H x y v u Q I rx ry ⟨J,S,d1,d2,d,ha,r1,r2,e,k⟩
 unfold DS.mulD at e
 split at e
 ·split at e
  ·rename_i h
   cases e;obtain rfl:=r1;obtain rfl:=r2
   exact zVo pins s σ H _ _ v u Q I rx ry ⟨_,_,rfl,rfl,h,k _ H ha .refl rfl⟩
  ·cases e
 ·cases e
theorem zE0:OpR X (binaryOp .FloorDiv) (r2Of K DS.zGj):=by
 intro pins s σ H x y v u Q I rx ry ⟨J,S,d1,d2,d,ha,r1,r2,e,k⟩
 unfold DS.zGj at e
 split at e
 ·split at e
  ·rename_i h
   cases e;obtain rfl:=r1;obtain rfl:=r2
   exact zRs pins s σ H _ _ v u Q I rx ry ⟨_,_,rfl,rfl,h,k _ H ha .refl rfl⟩
  ·cases e
 ·cases e
theorem zBx:OpR X (binaryOp .Mod) (r2Of K DS.modD):=by
 intro pins s σ H x y v u Q I rx ry ⟨J,S,d1,d2,d,ha,r1,r2,e,k⟩
 unfold DS.modD at e
 split at e
 ·split at e
  ·rename_i h
   cases e;obtain rfl:=r1;obtain rfl:=r2
   exact zYs pins s σ H _ _ v u Q I rx ry ⟨_,_,rfl,rfl,h,k _ H ha .refl rfl⟩
  ·cases e
 ·cases e
theorem zVm:OpR X (binaryOp .Pow) (r2Of K DS.powD):=by
 intro pins s σ H x y v u Q I rx ry ⟨J,S,d1,d2,d,ha,r1,r2,e,k⟩
 unfold DS.powD at e
 split at e
 ·split at e
  ·rename_i h
   cases e;obtain rfl:=r1;obtain rfl:=r2
   exact zYq pins s σ H _ _ v u Q I rx ry ⟨_,_,rfl,rfl,h,k _ H ha .refl rfl⟩
  ·cases e
 ·cases e
theorem zCr:UnR X (unaryOp .USub) (r1Of K DS.negD):=by
 intro pins s σ H x v Q I rx ⟨J,S,d1,d,ha,r1,e,k⟩
 unfold DS.negD at e
 split at e
 ·cases e;obtain rfl:=r1
  exact zXe pins s σ H _ v Q I rx ⟨_,rfl,k _ H ha .refl rfl⟩
 ·cases e
theorem zQf {pins:List (Addr × Obj)}{σ:St}{s:Shared}{a b:Addr}{xs ys:List V}{Q:VK}(I:Inv X pins σ H s) (h1:Rd H a (.lst xs)) (h2:Rd H b (.lst ys)) (hz:xs.length+ys.length<=sizeLine) (q:∀p,H p=none->Q (.ref p) (upd H p (.lst (xs++ys)))):
  wpAny (model X.prog X.w) X.A (binaryOp .Add (.ref a) (.ref b)) (EP X pins σ Q) X.xe s:=by
 obtain⟨z,its,n,r,hl,e⟩:=I.lstR h1
 obtain⟨z2,its2,n2,r2,hl2,e2⟩:=I.lstR h2
 refine PySem.P.add_list e e2 ?_ (by rw[xv,xv,<- hl,<- hl2];exact hz)
 rw[show its.toArray++its2.toArray=(its++its2).toArray by simp]
 exact⟨.ref _,_,I.lnew (t':=s.toks) (r.append r2) (by rw[vD];exact hz),rfl,q _ I.fresh⟩
theorem zRt:OpR X (binaryOp .Add) (yAd K DS.catD):=by
 intro pins s σ H x y v u Q I rx ry ⟨J,S,d1,d2,d,ha,r1,r2,e,k⟩
 unfold DS.catD at e
 split at e
 ·rename_i l m e1 e2
  split at e
  ·rename_i h
   cases e
   obtain⟨a,xs,rfl,h1,q1⟩:=zDj ha r1 e1
   obtain⟨b,ys,rfl,h2,q2⟩:=zDj ha r2 e2
   cases rx
   cases ry
   exact zQf I h1 h2 (by rw[<- q1.length,<- q2.length];exact h) fun p n=>k p _ H ha .refl n ⟨_,rfl,q1.append q2⟩
  ·cases e
 ·cases e
theorem zAj (hK:X.K=K:=by rfl):OpR X (binaryOp .Add) (r2Of K DS.addD):=by
 subst hK
 intro pins s σ H x y v u Q I rx ry ⟨J,S,d1,d2,d,ha,r1,r2,e,k⟩
 unfold DS.addD at e
 split at e
 ·cases e;obtain rfl:=r1;obtain rfl:=r2
  exact zYu pins s σ H _ _ v u Q I rx ry ⟨_,_,rfl,rfl,k _ H ha .refl rfl⟩
 ·split at e
  ·rename_i h
   cases e;obtain rfl:=r1;obtain rfl:=r2
   exact zMq pins s σ H _ _ v u Q I rx ry ⟨_,_,rfl,rfl,h,k _ H ha .refl rfl⟩
  ·cases e
 ·split at e
  ·rename_i l m h
   cases e
   obtain⟨a,xs,rfl,t1,q1⟩:=r1
   obtain⟨b,ys,rfl,t2,q2⟩:=r2
   have e1:=q1.length
   have e2:=q2.length
   refine zVq pins s σ H _ _ v u Q I rx ry ⟨a,b,xs,ys,rfl,rfl,t1.sq,t2.sq,fun z=>h.1 (by subst z;exact yx e1),by rw[<- e1,<- e2];exact h.2,fun z=>?_,fun z p n=>?_⟩
   ·subst z
    obtain rfl:m=[]:=yx e2
    rw[List.append_nil]at k
    exact k _ H ha .refl ⟨a,xs,rfl,t1,q1⟩
   ·exact k _ _ (ha.push n) (.push n) ⟨p,_,rfl,⟨zAu,ha.out n⟩,RepL.grow (.push n) _ _ (q1.append q2)⟩
  ·cases e
 ·exact zRt pins s σ H _ _ v u Q I rx ry ⟨J,S,d1,d2,d,ha,r1,r2,e,fun p o H' a1 g1 n r=>k _ _ (a1.push n) (g1.trans (.push n)) (r.rep a1 n)⟩
end
end L2
namespace L2
open PySem PySem.Spec PyProof.Rows
open DS (D Store Exn Rs SR)
section
variable {X:Cx}{K:PySem.W.Frag}{E:XE}{J:Js}{S:Store}{H:Hp}{d d1 d2:D}{v:V}
theorem zIx:OpR X (compareOp .LtE) (r2Of K DS.leD):=by
 intro pins s σ H x y v u Q I rx ry ⟨J,S,d1,d2,d,ha,r1,r2,e,k⟩
 unfold DS.leD DS.iLt at e
 split at e
 ·cases e;obtain rfl:=r1;obtain rfl:=r2
  exact yAn pins s σ H _ _ v u Q I rx ry ⟨_,_,rfl,rfl,k _ H ha .refl (congrArg V.bl (by congr))⟩
 ·cases e;obtain rfl:=r1;obtain rfl:=r2
  exact zOz pins s σ H _ _ v u Q I rx ry ⟨_,_,rfl,rfl,k _ H ha .refl (congrArg V.bl (by congr))⟩
 ·cases e
theorem zHc:OpR X (compareOp .Gt) (r2Of K DS.gtD):=by
 intro pins s σ H x y v u Q I rx ry ⟨J,S,d1,d2,d,ha,r1,r2,e,k⟩
 unfold DS.gtD at e
 split at e
 ·cases e;obtain rfl:=r1;obtain rfl:=r2
  exact yAo pins s σ H _ _ v u Q I rx ry ⟨_,_,rfl,rfl,k _ H ha .refl (congrArg V.bl (by congr))⟩
 ·cases e
theorem zTf:OpR X (compareOp .GtE) (r2Of K DS.geD):=by
 intro pins s σ H x y v u Q I rx ry ⟨J,S,d1,d2,d,ha,r1,r2,e,k⟩
 unfold DS.geD at e
 split at e
 ·cases e;obtain rfl:=r1;obtain rfl:=r2
  exact yAp pins s σ H _ _ v u Q I rx ry ⟨_,_,rfl,rfl,k _ H ha .refl (congrArg V.bl (by congr))⟩
 ·cases e
theorem yA5 {α β:Type}{l:List α}{xs:List β}{i:Int}{a:α}(hl:l.length=xs.length) (e:DS.atL l i=some a):∃j:Nat,l[j]?=some a/\∀b,xs[j]?=some b->atI xs i=some b:=by
 unfold DS.atL at e
 unfold atI
 rw[show DS.ixN l.length i=L2.ixN xs.length i by rw[hl];rfl]at e
 cases e1:L2.ixN xs.length i with
 | none=>rw[e1]at e;cases e
 | some j=>rw[e1]at e;exact⟨j,e,fun b eb=>eb⟩
theorem zLr {k k':Key}(h:keyD k=keyD k'):k=k':=by
 cases k <;> cases k' <;> first|(cases h;rfl)|cases h
theorem zLp {k:Key}(r:Rep K J H (keyD k) v):v=kV k:=by cases k <;> exact r
theorem zLa (h:DS.isKey d=true) (n:∀l,d≠.tup l):∃k,d=keyD k:=by
 cases d with
 | int i=>exact⟨.inl i,rfl⟩
 | str x=>exact⟨.inr x,rfl⟩
 | tup l=>exact absurd rfl (n l)
 | _=>cases h
open Classical in
theorem zQ0 {κ:Type}[DecidableEq κ] {f:κ->D}(fi:∀a b,f a=f b->a=b) (k:κ):∀{kvs:List (κ × V)}{vs:List D},RepL K J H vs (kvs.map (·.2))->
  (valV kvs k=none/\f k ∉ kvs.map (fun p=>f p.1)/\DS.look2 (kvs.map fun p=>f p.1) vs (f k)=none)\/∃w dv,valV kvs k=some w/\f k∈kvs.map (fun p=>f p.1)/\DS.look2 (kvs.map fun p=>f p.1) vs (f k)=some dv/\Rep K J H dv w
 | [],vs,r=>.inl ⟨rfl,by simp,by cases vs <;> rfl⟩
 | p::kvs,[],r=>by have h:p.2::kvs.map (·.2)=[]:=r;cases h
 | p::kvs,dv::vs,⟨x,t,e,h,rl⟩=>by
  have e:=List.cons.inj (show p.2::kvs.map (·.2)=x::t from e)
  obtain⟨rfl,rfl⟩:=e
  by_cases z:p.1=k
  ·refine .inr ⟨p.2,dv,zHs z,by simp[z],?_,h⟩
   unfold DS.look2
   rw[xt]
   exact xc (by rw[z])
  ·have zf:f p.1≠f k:=fun q=>z (fi _ _ q)
   have e1:DS.look2 ((p::kvs).map fun p=>f p.1) (dv::vs) (f k)=DS.look2 (kvs.map fun p=>f p.1) vs (f k):=by
    rw[xt]
    conv=>lhs;unfold DS.look2
    exact xf zf
   rw[zHt z,e1]
   rcases zQ0 fi k rl with⟨a1,a2,a3⟩|⟨w,dv',a1,a2,a3,a4⟩
   ·exact .inl ⟨a1,by simp[a2,xo zf] <;> simpa using a2,a3⟩
   ·exact .inr ⟨w,dv',a1,by rw[xt];exact xW _ a2,a3,a4⟩
theorem zSo {ks vs:List D}{a:Addr}{o:HO}{xs:List V}{y:V}(he:H a=some o) (ht:DOb o false ks xs) (rl:RepL K J H vs xs) (ry:Rep K J H d y) (hk:DS.zFm false d=true):
  (DGet H a y none/\d ∉ ks/\DS.look2 ks vs d=none)\/∃w dv,DGet H a y (some w)/\d∈ks/\DS.look2 ks vs d=some dv/\Rep K J H dv w:=by
 unfold DS.zFm at hk
 rw[xM]at hk
 rcases ht with⟨_,kvs,rfl,rfl,rfl⟩|⟨z,_⟩
 ·obtain⟨k,rfl⟩:=zLa hk.1 fun l z=>by subst z;cases hk.2
  obtain rfl:=zLp ry
  rcases zQ0 (fun a b=>zLr) k rl with⟨a1,a2,a3⟩|⟨w,dv,a1,a2,a3,a4⟩
  ·exact .inl ⟨.inl ⟨kvs,k,.inl he,rfl,a1.symm⟩,a2,a3⟩
  ·exact .inr ⟨w,dv,.inl ⟨kvs,k,.inl he,rfl,a1.symm⟩,a2,a3,a4⟩
 ·cases z
theorem zZz {t:Bool}{ks vs:List D}(ha:AbS K J S H) (r:Rep K J H d v) (e:DS.look S d=some (.dct t ks vs)):∃a o xs,v=.ref a/\H a=some o/\DOb o t ks xs/\RepL K J H vs xs:=by
 cases d with
 | dct t ks vs=>cases e;obtain⟨a,o,xs,rfl,_,h,q,rl⟩:=r;exact⟨a,o,xs,rfl,h,q,rl⟩
 | ref n=>
  obtain⟨a,ea,rfl⟩:=r
  obtain⟨c,ec,o,eo,rc⟩:=ha.at ea
  have e:S[n]?=_:=e
  rw[ec]at e;cases e
  obtain⟨xs,q,rl⟩:=rc
  exact⟨a,o,xs,rfl,eo,q,rl⟩
 | _=>cases e
theorem zE3 {l:List D}(e:DS.look S d=some (.tup l)\/DS.look S d=some (.lst l)):DS.items S d=some l:=by
 unfold DS.items
 rcases e with e|e <;> rw[e]
theorem ix_D (hu:X.A.units+1<cLine) (hK:X.K=K:=by rfl):IxR X (r2Of K DS.ixD):=by
 subst hK
 intro value slice pins s σ H x y v u Q I rx ry ⟨J,S,d1,d2,d,ha,r1,r2,e,k⟩ hs
 have seq:∀(l:List D) (i:Int),DS.items S d1=some l->d2=.int i->DS.atL l i=some d->wpAny (model X.prog X.w) X.A (subscriptTail value slice v u) (EP X pins σ Q) X.xe s:=fun l i e1 e2 e3=>by
  subst e2
  obtain rfl:=r2
  obtain⟨a,xs,rfl,hq,rl⟩:=zIa ha r1 e1
  obtain⟨j,ej,h⟩:=yA5 (xs:=xs) rl.length e3
  obtain⟨w,ew,rw'⟩:=rl.get ej
  rcases hq with hq|hq
  ·exact zW4 value slice pins s σ H _ _ v u Q I rx ry ⟨a,xs,i,w,rfl,rfl,hq,h w ew,k w H ha .refl rw'⟩ hs
  ·exact zZc value slice pins s σ H _ _ v u Q I rx ry ⟨a,xs,i,w,rfl,rfl,hq,h w ew,k w H ha .refl rw'⟩ hs
 unfold DS.ixD at e
 split at e
 ·rename_i l i e1;exact seq l i (zE3 (.inl e1)) rfl e
 ·rename_i l i e1;exact seq l i (zE3 (.inr e1)) rfl e
 ·rename_i ks vs kk e1
  split at e
  ·rename_i hk
   obtain⟨a,o,xs,rfl,he,q,rl⟩:=zZz ha r1 e1
   rcases zSo he q rl r2 hk with⟨_,_,h⟩|⟨w,dv,g,_,h,rw'⟩
   ·rw[h]at e;cases e
   ·rw[h]at e;cases e
    obtain rfl:v=Value.ref a:=rx
    exact tail_any (ops:=[.ref a,u]) (zKr I g) PySem.F.slot_dict_getitem.lookup (zQ6 hu I g ry fun w' s3 I3 rw2=>⟨w,H,I3,rw2,k w H ha .refl rw'⟩) hs
  ·cases e
 ·cases e
theorem zEi {prog:Program}{w:World}{A:Around}{E:Value->Shared->Prop}{s:Shared}{t sl:Addr}{items:Array Value}{vl vu:Value}{lo hi:Option Int}{Q:Value->Shared->Prop}(ht:IsTup s.heap t items) (hs:s.heap.IsSliceOf sl vl vu .none) (pl:IsPart vl lo) (pu:IsPart vu hi)
  (hw:HT.sIx items.size 0 lo=0/\HT.sIx items.size items.size hi=items.size) (h:Q (.ref t) s):wpAny (model prog w) A (getItem (.ref t) (.ref sl)) Q E s:=by
 obtain⟨os,hos,hcs,hds⟩:=id hs
 have hTs:s.TypeIs (.ref sl) "slice":=⟨os,hos,hcs⟩
 unfold getItem
 try with_reducible refine xF ?_
 first|refine xa (xg ?_)|skip
 refine xa (wpAny_sequenceKey ht.typeIs (by decide) ?_)
 refine xa (vF (name:=Str.ofString "__getitem__") ht.typeIs vZ (vk vZ ht.typeIs entry_tuple_getitem ?_ (args_tuple_getitem _ _)))
 show wpAny _ _ (Builtin.Tuple.tupleItemsOf (.ref t) >>= _) _ _ s
 refine xa (tupleItemsOf_ ht ?_)
 refine xa (uc hTs ?_)
 rw[xc (by decide)]
 refine xa (HT.sliceApplied_gen hs pl pu ?_)
 show wpAny _ _ (if(((HT.sIx items.size 0 lo:Nat):Int) == 0 && (1:Int) == 1 && (HT.sIx items.size items.size hi-HT.sIx items.size 0 lo) == items.size)=true then _ else _) _ _ s
 rw[xc (by rw[hw.1,hw.2];simp)]
 have tex:∀{Q:Bool->Shared->Prop},Q true s->wpAny (model prog w) A.in1 (Builtin.Tuple.tupleIsExact (.ref t)) Q E s:=fun {Q} q=>by
  unfold Builtin.Tuple.tupleIsExact
  refine xa (uc ht.typeIs (xg ?_))
  exact q
 refine xa (tex ?_)
 rw[xc rfl]
 refine xa (wpAny_rule ?_)
 exact xg ⟨_,rfl,xg h⟩
theorem zQ8 {l:List D}{xs:List V}(rl:RepL K J H l xs) (lo hi:Option Int):RepL K J H (DS.cutL l lo hi) (cutV xs lo hi):=by
 unfold DS.cutL cutV
 rw[show DS.sIx l.length 0 lo=HT.sIx xs.length 0 lo by rw[rl.length];rfl,show DS.sIx l.length l.length hi=HT.sIx xs.length xs.length hi by rw[rl.length];rfl]
 exact(rl.drop _).take _
theorem zQ7 {l:List D}{xs:List V}{lo hi:Option Int}(rl:RepL K J H l xs) (hw:HT.sIx xs.length 0 lo=0/\HT.sIx xs.length xs.length hi=xs.length):DS.cutL l lo hi=l:=by
 unfold DS.cutL
 rw[show DS.sIx l.length 0 lo=HT.sIx xs.length 0 lo by rw[rl.length];rfl,show DS.sIx l.length l.length hi=HT.sIx xs.length xs.length hi by rw[rl.length];rfl,hw.1,hw.2,<- rl.length]
 simp
theorem zLk {l:List D}(ha:AbS K J S H) (r:Rep K J H d v) (e:DS.look S d=some (.lst l)):∃a xs,v=.ref a/\SqL K H a xs/\RepL K J H l xs:=by
 cases d with
 | lst l=>cases e;obtain⟨a,xs,rfl,t,rl⟩:=r;exact⟨a,xs,rfl,t.sq,rl⟩
 | klst l=>cases e;obtain⟨a,xs,rfl,t,rl⟩:=r;exact⟨a,xs,rfl,t.sq,rl⟩
 | ref n=>
  obtain⟨a,ea,rfl⟩:=r
  obtain⟨c,ec,o,eo,rc⟩:=ha.at ea
  have e:S[n]?=_:=e
  rw[ec]at e;cases e
  obtain⟨xs,rfl,rl⟩:=rc
  exact⟨a,xs,rfl,.inl (.inl eo),rl⟩
 | _=>cases e
theorem sl_D (hK:X.K=K:=by rfl):SlR X (slOf K DS.slD):=by
 subst hK
 intro pins s σ H x v vl vu lo hi sl Q I rx hs pl pu ⟨J,S,d1,d,ha,r1,e,k⟩
 unfold DS.slD at e
 split at e
 ·rename_i l
  cases e
  have r0:=r1
  obtain⟨a,xs,rfl,t,rl⟩:=r1
  by_cases hw:HT.sIx xs.length 0 lo=0/\HT.sIx xs.length xs.length hi=xs.length
  ·cases rx
   obtain⟨its,r,ht,hz⟩:=I.tuple t.sq
   have hlen:its.toArray.size=xs.length:=by rw[xv];exact r.length.symm
   refine⟨"tuple",_,vZ.lookup,ht.typeIs,zEi ht hs pl pu (by rw[hlen];exact hw) ⟨.ref a,H,I,rfl,k _ H ha .refl ?_⟩⟩
   rw[zQ7 rl hw];exact r0
  ·exact zXp pins s σ H _ v vl vu lo hi sl Q I rx hs pl pu ⟨a,xs,rfl,t.sq,hw,fun p n=>k _ _ (ha.push n) (.push n) ⟨p,_,rfl,⟨zAu,ha.out n⟩,RepL.grow (.push n) _ _ (zQ8 rl lo hi)⟩⟩
 ·split at e
  ·rename_i l e1
   cases e
   obtain⟨a,xs,rfl,t,rl⟩:=zLk ha r1 e1
   exact zUh pins s σ H _ v vl vu lo hi sl Q I rx hs pl pu ⟨a,xs,rfl,t,fun p n=>k _ _ (ha.push n) (.push n) ⟨p,_,rfl,⟨zAu,ha.out n⟩,RepL.grow (.push n) _ _ (zQ8 rl lo hi)⟩⟩
  ·cases e
end
end L2
namespace L2
open PySem PySem.Spec PyProof.Rows
open DS (D Store Exn Rs SR)
section
variable {X:Cx}{K:PySem.W.Frag}{E:XE}{J:Js}{S:Store}{H:Hp}{d d1 d2:D}{v:V}
noncomputable def pOf (K:PySem.W.Frag) (g:Store->D->D->D->Option Store):TSet:=fun o i v H Q=>∃J S d1 d2 d3 S',AbS K J S H/\Rep K J H d1 o/\Rep K J H d2 i/\Rep K J H d3 v/\g S d1 d2 d3=some S'/\∀H',AbS K J S' H'->Grow J H J H'->Q H'
open Classical in
theorem zY0 {κ:Type}[DecidableEq κ] {f:κ->D}(fi:∀a b,f a=f b->a=b) {k:κ}{dv:D}{w:V}{kvs:List (κ × V)}{vs:List D}(r:RepL K J H vs (kvs.map (·.2))) (rv:Rep K J H dv w):
  (DS.put2 (kvs.map fun p=>f p.1) vs (f k) dv).1=(putK kvs k w).map (fun p=>f p.1)/\RepL K J H (DS.put2 (kvs.map fun p=>f p.1) vs (f k) dv).2 ((putK kvs k w).map (·.2)):=by
 have any_iff:(kvs.any fun kv=>decide (kv.1=k))=true <-> f k∈kvs.map fun p=>f p.1:=by
  simp only[List.any_eq_true,uV,xk]
  constructor
  ·rintro⟨p,hp,e⟩;exact⟨p,hp,by rw[e]⟩
  ·rintro⟨p,hp,e⟩;exact⟨p,hp,fi _ _ e⟩
 unfold DS.put2 putK
 by_cases hm:f k∈kvs.map fun p=>f p.1
 ·rw[xc hm,xc (any_iff.mpr hm)]
  refine⟨?_,?_⟩
  ·rw[xG]
   refine uW fun p _=>?_
   show f p.1=f (if p.1=k then(p.1,w)else p).1
   split <;> rfl
  ·clear hm any_iff
   induction kvs generalizing vs with
   | nil=>cases vs <;> rfl
   | cons p kvs ih=>
    cases vs with
    | nil=>cases r
    | cons dw vs=>
     obtain⟨x,t,e,h,rl⟩:=r
     have e:=List.cons.inj (show p.2::kvs.map (·.2)=x::t from e)
     obtain⟨rfl,rfl⟩:=e
     refine⟨(if p.1=k then(p.1,w)else p).2,_,rfl,?_,ih rl⟩
     by_cases z:p.1=k
     ·rw[xc z,xc (show f p.1=f k by rw[z])];exact rv
     ·rw[xf z,xf fun q=>z (fi _ _ q)];exact h
 ·rw[xf hm,xf (fun z=>hm (any_iff.mp z))]
  refine⟨by simp,?_⟩
  rw[vR]
  exact r.snoc rv
theorem zKp {o i e:Expr}{mo mi m:DS.EM}{sp2 pos:Pos}{g:Store->D->D->D->Option Store}(hs:PSet X (pOf K g)) (ho:DE X K E o mo) (hi:DE X K E i mi) (he:DE X K E e m) (h:nsl i=true:=by rfl) (h2:nco e=true:=by rfl):DS1 X K E (.Assign [.Subscript o i sp2] e pos) (DS.sPut g mo mi m):=
 ⟨(qasgs' he.h (zV8 ho.h hi.h hs h) h2).imp fun D σ H ⟨env,S,J,ha,he,q⟩=>⟨env,S,J,ha,he,q.then.imp fun dv S1 J1 H1 _ a1 g1 q1 v rv=>⟨env,S1,J1,a1,he.grow g1,q1.then.imp fun dx S2 J2 H2 _ a2 g2 q2 x rx=>
  ⟨env,S2,J2,a2,he.grow (g1.trans g2),q2.then.imp fun di S3 J3 H3 _ a3 g3 q3 y ry=>by
   cases e1:g S3 dx di dv with
   | none=>rw[e1]at q3;exact False.elim q3
   | some S4=>
    rw[e1]at q3
    exact⟨J3,S3,dx,di,dv,S4,a3,Rep.grow g3 _ _ rx,ry,Rep.grow (g2.trans g3) _ _ rv,e1,fun H' h1 h2=>q3 J3 H' σ h1 h2 (he.grow (g1.trans (g2.trans (g3.trans h2))))⟩⟩⟩⟩⟩
theorem zFk {ds:List D}{xs:List V}{d:D}(r:RepL K J H [d] xs):∃x,xs=[x]/\Rep K J H d x:=by
 obtain⟨x,t,rfl,h,rfl⟩:=r
 exact⟨x,rfl,h⟩
theorem zBl (hK:X.K=K:=by rfl):zCb X (.builtin "len") (cOf K DS.lenB):=by
 subst hK
 intro pins s σ H xs us Q I r ⟨J,S,ds,d,ha,rl,e,k⟩
 unfold DS.lenB at e
 split at e
 ·rename_i d0
  obtain⟨x,rfl,rx⟩:=zFk (ds:=[]) rl
  have seq:∀l,DS.items S d0=some l->d=.int l.length->wpAny (model X.prog X.w) X.A (call (.builtin "len") us) (EP X pins σ Q) X.xe s:=fun l e1 e2=>by
   subst e2
   obtain⟨a,ys,rfl,hq,q⟩:=zIa ha rx e1
   exact zJi pins s σ H _ us Q I r ⟨a,ys,rfl,hq,k _ H ha .refl (by rw[q.length];rfl)⟩
  split at e
  ·rename_i l e1;cases e;exact seq l (zE3 (.inl e1)) rfl
  ·rename_i l e1;cases e;exact seq l (zE3 (.inr e1)) rfl
  ·cases e
 ·cases e
theorem zGq (hK:X.K=K:=by rfl):zCb X (.type "list") (cOfF K DS.zJ3):=by
 subst hK
 intro pins s σ H xs us Q I r ⟨J,S,ds,d,ha,rl,e,k⟩
 unfold DS.zJ3 at e
 split at e
 ·rename_i d0
  obtain⟨x,rfl,rx⟩:=zFk (ds:=[]) rl
  cases e1:DS.items S d0 with
  | none=>rw[e1]at e;cases e
  | some l=>
   rw[e1]at e;cases e
   obtain⟨a,ys,rfl,hq,q⟩:=zIa ha rx e1
   exact zJh pins s σ H _ us Q I r ⟨a,ys,rfl,hq,fun p n=>k p _ H ha .refl n ⟨ys,rfl,q⟩⟩
 ·cases e
theorem zDp (hK:X.K=K:=by rfl):zCb X (.type "tuple") (cOf K DS.zEm):=by
 subst hK
 intro pins s σ H xs us Q I r ⟨J,S,ds,d,ha,rl,e,k⟩
 unfold DS.zEm at e
 split at e
 ·rename_i d0
  obtain⟨x,rfl,rx⟩:=zFk (ds:=[]) rl
  split at e
  ·rename_i l
   cases e
   have r0:=rx
   obtain⟨a,ys,rfl,t,q⟩:=rx
   exact zD5 pins s σ H _ us Q I r ⟨a,ys,rfl,.inr ⟨t.sq,k _ H ha .refl r0⟩⟩
  ·rename_i l
   cases e
   have r0:=rx
   obtain⟨a,ys,rfl,t,q⟩:=rx
   exact zD5 pins s σ H _ us Q I r ⟨a,ys,rfl,.inr ⟨t.sq,k _ H ha .refl r0⟩⟩
  ·cases e1:DS.litems S d0 with
   | none=>rw[e1]at e;cases e
   | some l=>
    rw[e1]at e;cases e
    obtain⟨a,ys,rfl,hq,q⟩:=zDj ha rx e1
    exact zD5 pins s σ H _ us Q I r ⟨a,ys,rfl,.inl ⟨.inl hq,fun p n=>k _ _ (ha.push n) (.push n) ⟨p,ys,rfl,⟨zAu,ha.out n⟩,RepL.grow (.push n) _ _ q⟩⟩⟩
 ·cases e
theorem zMb:∀{l:List D}{xs:List V}{bs:List Bool},RepL K J H l xs->DS.bools l=some bs->xs=bs.map V.bl
 | [],_,_,r,e=>by cases e;exact r
 | d::l,_,bs,⟨x,t,e0,h,rl⟩,e=>by
  subst e0
  cases d with
  | bl b=>
   unfold DS.bools at e
   cases e1:DS.bools l with
   | none=>rw[e1]at e;cases e
   | some cs=>rw[e1]at e;cases e;rw[zMb rl e1,show x=.bl b from h];rfl
  | _=>cases e
theorem zHn (hc:X.calm=true) (hK:X.K=K:=by rfl):zCb X (.builtin "all") (cOf K DS.allB):=by
 subst hK
 intro pins s σ H xs us Q I r ⟨J,S,ds,d,ha,rl,e,k⟩
 unfold DS.allB at e
 split at e
 ·rename_i d0
  obtain⟨x,rfl,rx⟩:=zFk (ds:=[]) rl
  cases e1:DS.litems S d0 with
  | none=>rw[e1]at e;cases e
  | some l=>
   rw[e1]at e
   cases e2:DS.bools l with
   | none=>simp[e2]at e
   | some bs=>
    simp only[Option.bind_some,e2,vz,Option.some.injEq]at e
    subst e
    obtain⟨a,ys,rfl,hq,q⟩:=zDj ha rx e1
    obtain rfl:=zMb q e2
    exact zQh hc pins s σ H _ us Q I r ⟨a,bs,rfl,.inl hq,k _ H ha .refl rfl⟩
 ·cases e
theorem zHu {d1 d2:D}{xs:List V}(r:RepL K J H [d1,d2] xs):∃x y,xs=[x,y]/\Rep K J H d1 x/\Rep K J H d2 y:=by
 obtain⟨x,t,rfl,h,y,t',rfl,h',rfl⟩:=r
 exact⟨x,y,rfl,h,h'⟩
theorem zHm (hc:X.calm=true):zCb X (.builtin "max") (cOf K DS.max2B):=by
 intro pins s σ H xs us Q I r ⟨J,S,ds,d,ha,rl,e,k⟩
 unfold DS.max2B at e
 split at e
 ·obtain⟨x,y,rfl,rx,ry⟩:=zHu rl
  obtain rfl:=rx;obtain rfl:=ry
  cases e
  exact zQg hc pins s σ H _ us Q I r ⟨_,_,rfl,k _ H ha .refl (congrArg V.int (by congr))⟩
 ·cases e
theorem zGr:zCb X (.builtin "abs") (cOf K DS.absB):=by
 intro pins s σ H xs us Q I r ⟨J,S,ds,d,ha,rl,e,k⟩
 unfold DS.absB at e
 split at e
 ·obtain⟨x,rfl,rx⟩:=zFk (ds:=[]) rl
  obtain rfl:=rx
  cases e
  exact zSw pins s σ H _ us Q I r ⟨_,rfl,k _ H ha .refl (congrArg V.int (by congr))⟩
 ·cases e
theorem zCd:MtR X "list.append" (mOf K DS.zB7):=by
 intro pins s σ H x xs v us Q I rx rs ⟨J,S,d1,ds,d,S',ha,r1,rl,e,k⟩
 unfold DS.zB7 at e
 split at e
 ·rename_i n dv
  obtain⟨a,ea,rfl⟩:=r1
  obtain⟨c,ec,ob,eo,rc⟩:=ha.at ea
  obtain⟨y,rfl,ry⟩:=zFk (ds:=[]) rl
  split at e
  ·rename_i l es
   rw[ec]at es;cases es
   obtain⟨ys,rfl,rl⟩:=rc
   split at e
   ·rename_i hz
    cases e
    exact zP8 pins s σ H _ _ v us Q I rx rs ⟨a,ys,y,rfl,rfl,eo,by rw[<- rl.length];exact hz,k _ _ (ha.write ea ⟨_,rfl,rl.snoc ry⟩) (.write ea) rfl⟩
   ·cases e
  ·cases e
 ·cases e
theorem zP7:MtR X "list.pop" (mOf K DS.popM):=by
 intro pins s σ H x xs v us Q I rx rs ⟨J,S,d1,ds,d,S',ha,r1,rl,e,k⟩
 unfold DS.popM at e
 split at e
 ·rename_i n
  obtain⟨a,ea,rfl⟩:=r1
  obtain⟨c,ec,ob,eo,rc⟩:=ha.at ea
  obtain rfl:=rl
  split at e
  ·rename_i l es
   rw[ec]at es;cases es
   obtain⟨ys,rfl,rl⟩:=rc
   cases e1:l[l.length-1]? with
   | none=>rw[e1]at e;cases e
   | some w=>
    rw[e1]at e
    simp only[vz,Option.some.injEq,Prod.mk.injEq]at e
    obtain⟨rfl,rfl⟩:=e
    obtain⟨y,ey,ry⟩:=rl.get e1
    have g:Grow J H J (upd H a (.lst ys.dropLast)):=.write ea
    exact zZ0 pins s σ H _ _ v us Q I rx rs ⟨a,ys,y,rfl,rfl,eo,by rw[<- rl.length];exact ey,k _ _ (ha.write ea ⟨_,rfl,rl.dropLast⟩) g (Rep.grow g _ _ ry)⟩
  ·cases e
 ·cases e
end
end L2
namespace L2
open PySem PySem.Spec PyProof.Rows
open DS (D Store Exn Rs SR)
section
variable {X:Cx}{K:PySem.W.Frag}{E:XE}{J:Js}{S:Store}{H:Hp}{d d1 d2:D}{v:V}
theorem zPn {tg:Expr}{pins:List (Addr × Obj)}{s1:Shared}{σ:St}{H1:Hp}{R:It->Hp->Prop}{a:Addr}{xs:List V}(I1:Inv X pins σ H1 s1) (hq:SqL X.K H1 a xs) (q:R (Itl X.K a) H1):wpAny (model X.prog X.w) X.A (pyIter (.ref a)) (PIE X pins σ tg R) X.xe s1:=by
 obtain⟨its,rv,p,hz⟩:=I1.list hq
 refine yf p.isList ?_
 refine⟨s1.heap.objs.size,[s1.heap.objs.size],_,_,H1,rfl,I1.kept (t':=s1.toks) fun b o e=>xj _ e,zNr a _,⟨_,xu _ rfl,rfl,rfl⟩,fun b hb=>?_,q⟩
 have e:b=s1.heap.objs.size:=by simpa using hb
 subst e
 exact I1.fpOk (xh _) (I1.hok.fresh (xh _))
theorem zS7 {tg:Expr}{pins:List (Addr × Obj)}{s1:Shared}{σ:St}{H1:Hp}{R:It->Hp->Prop}{a:Addr}{xs:List V}(I1:Inv X pins σ H1 s1) (hq:SqT X.K H1 a xs) (q:R (Itt X.K a) H1):wpAny (model X.prog X.w) X.A (pyIter (.ref a)) (PIE X pins σ tg R) X.xe s1:=by
 obtain⟨its,rv,p,hz⟩:=I1.tuple hq
 refine wpAny_pyIter_tuple (show s1.heap.IsTuple a its.toArray from p) ?_
 refine⟨s1.heap.objs.size,[s1.heap.objs.size],_,_,H1,rfl,I1.kept (t':=s1.toks) fun b o e=>xj _ e,zMj a _,⟨_,xu _ rfl,rfl,rfl⟩,fun b hb=>?_,q⟩
 have e:b=s1.heap.objs.size:=by simpa using hb
 subst e
 exact I1.fpOk (xh _) (I1.hok.fresh (xh _))
theorem stays_list {l:List D}(ha:AbS K J S H) (r:Rep K J H d v) (e:DS.look S d=some (.lst l)):∃a xs,v=.ref a/\SqL K H a xs/\∀J' H' S',Grow J H J' H'->AbS K J' S' H'->DS.gOk S' (DS.gdOf S d)->∃ys,SqL K H' a ys/\RepL K J' H' l ys:=by
 cases d with
 | lst l=>cases e;obtain⟨a,xs,rfl,t,rl⟩:=r;exact⟨a,xs,rfl,t.sq,fun J' H' S' g _ _=>⟨xs,(t.grow g).sq,RepL.grow g _ _ rl⟩⟩
 | klst l=>cases e;obtain⟨a,xs,rfl,t,rl⟩:=r;exact⟨a,xs,rfl,t.sq,fun J' H' S' g _ _=>⟨xs,(t.grow g).sq,RepL.grow g _ _ rl⟩⟩
 | ref n=>
  obtain⟨a,ea,rfl⟩:=r
  obtain⟨c,ec,o,eo,rc⟩:=ha.at ea
  have e:S[n]?=_:=e
  rw[ec]at e;cases e
  obtain⟨xs,rfl,rl⟩:=rc
  refine⟨a,xs,rfl,.inl (.inl eo),fun J' H' S' g ha' gd=>?_⟩
  have e':S'[n]?=some (.lst l):=gd (n,.lst l) (by simp[DS.gdOf,ec])
  obtain⟨o',eo',rc'⟩:=ha'.ob n a _ (g.pre n a ea) e'
  obtain⟨ys,rfl,rl'⟩:=rc'
  exact⟨ys,.inl (.inl eo'),rl'⟩
 | _=>cases e
theorem stays_tup {l:List D}(ha:AbS K J S H) (r:Rep K J H d v) (e:DS.look S d=some (.tup l)):∃a xs,v=.ref a/\SqT K H a xs/\∀J' H',Grow J H J' H'->SqT K H' a xs/\RepL K J' H' l xs:=by
 cases d with
 | tup l=>cases e;obtain⟨a,xs,rfl,t,rl⟩:=r;exact⟨a,xs,rfl,t.sq,fun J' H' g=>⟨(t.grow g).sq,RepL.grow g _ _ rl⟩⟩
 | ktup l=>cases e;obtain⟨a,xs,rfl,t,rl⟩:=r;exact⟨a,xs,rfl,t.sq,fun J' H' g=>⟨t.sq,RepL.grow g _ _ rl⟩⟩
 | ref n=>
  obtain⟨a,ea,rfl⟩:=r
  obtain⟨c,ec,o,eo,rc⟩:=ha.at ea
  have e:S[n]?=_:=e
  rw[ec]at e;cases e
  exact False.elim rc
 | _=>cases e
theorem zW6 {a:Addr}{l:List D}{gd:List (Nat × D)}(h:∀J' H' S',Grow J H J' H'->AbS K J' S' H'->DS.gOk S' gd->∃ys,SqL K H' a ys/\RepL K J' H' l ys):ItOk K J H ⟨l,gd⟩ (Itl K a) where
 go:=fun i H' J' S' ha g gd hi=>by
  obtain⟨ys,q,rl⟩:=h J' H' S' g ha gd
  exact⟨ys,ys[i]'(by rw[<- rl.length];exact hi),q,xp _⟩
 yld:=fun i H' J' S' x H'' ha g gd y d ed=>by
  obtain⟨rfl,y⟩:=y
  obtain⟨ys,q,rl⟩:=h J' H'' S' g ha gd
  obtain⟨x',ex,rx⟩:=rl.get ed
  rw[y ys q]at ex;cases ex
  exact⟨ha,.refl,rx⟩
 stop:=fun i H' J' S' ha g gd hi=>by
  obtain⟨ys,q,rl⟩:=h J' H' S' g ha gd
  exact⟨ys,q,by rw[<- rl.length];exact hi⟩
theorem zZd {a:Addr}{xs:List V}{l:List D}{gd:List (Nat × D)}(h:∀J' H',Grow J H J' H'->SqT K H' a xs/\RepL K J' H' l xs):ItOk K J H ⟨l,gd⟩ (Itt K a) where
 go:=fun i H' J' S' ha g gd hi=>by
  obtain⟨q,rl⟩:=h J' H' g
  exact⟨xs,xs[i]'(by rw[<- rl.length];exact hi),q,xp _⟩
 yld:=fun i H' J' S' x H'' ha g gd y d ed=>by
  obtain⟨rfl,y⟩:=y
  obtain⟨q,rl⟩:=h J' H'' g
  obtain⟨x',ex,rx⟩:=rl.get ed
  rw[y xs q]at ex;cases ex
  exact⟨ha,.refl,rx⟩
 stop:=fun i H' J' S' ha g gd hi=>by
  obtain⟨q,rl⟩:=h J' H' g
  exact⟨xs,q,by rw[<- rl.length];exact hi⟩
theorem zBu {tg e:Expr}{m:DS.EM}(he:DE X K E e m) (hK:X.K=K:=by rfl):DI X K E tg e (DS.iVal m):=by
 subst hK
 refine⟨⟨fun pins s σ H R I hq1=>?_⟩⟩
 obtain⟨env,S,J,ha,hE,q⟩:=hq1
 refine thn (he.h.h pins s σ H (fun x H1=>∃J1 S1 d w,AbS X.K J1 S1 H1/\Rep X.K J1 H1 d x/\DS.zDd S1 d=some w/\∀It,ItOk X.K J1 H1 w It->R It H1) I ⟨env,S,J,ha,hE,q.bind.imp fun d S1 J1 H1 _ a1 g1 q1 x rx=>?_⟩) fun v s1 hq1=>?_
 ·obtain⟨w,ew,k⟩:=q1.lift
  exact⟨J1,S1,d,w,a1,rx,ew,k J1 H1 a1 .refl⟩
 ·obtain⟨x,H1,I1,r1,J1,S1,d,w,a1,rx,ew,k⟩:=hq1
  unfold DS.zDd at ew
  split at ew
  ·rename_i l el
   cases ew
   obtain⟨a,xs,rfl,hq,st⟩:=stays_tup a1 rx el
   cases r1
   exact zS7 I1 hq (k _ (zZd st))
  ·rename_i l el
   cases ew
   obtain⟨a,xs,rfl,hq,st⟩:=stays_list a1 rx el
   cases r1
   exact zPn I1 hq (k _ (zW6 st))
  ·cases ew
theorem zLv {lo:Int}{n:Nat}:ItOk K J H ⟨(List.range n).map fun(k:Nat)=>D.int (lo+k),[]⟩ (Itr lo n) where
 go:=fun i H' J' S' ha g gd hi=>by show i<n;simpa using hi
 yld:=fun i H' J' S' y H'' ha g gd yl d ed=>by
  obtain⟨rfl,rfl⟩:=yl
  rw[xK]at ed
  by_cases hi:i<n
  ·rw[List.getElem?_range hi]at ed
   cases ed
   exact⟨ha,.refl,rfl⟩
  ·rw[vK (by simpa using hi)]at ed
   cases ed
 stop:=fun i H' J' S' ha g gd hi=>by show n<=i;simpa using hi
theorem fits_of {i:Int}(h:DS.fits62 i=true):-(2 ^ 62)<=i/\i<2 ^ 62:=of_decide_eq_true h
theorem zDo {tg a:Expr}{p pos:Pos}{am:DS.AM}(hg:Gl X "range") (hm:X.mg "range"=none) (ha:DA X K E [a] am) (h:nst a=true:=by rfl):DI X K E tg (.Call (.Name "range" p) [a] [] pos) (DS.zAw am):=
 ⟨(qrange1' hg hm ha.h h).imp fun σ H R ⟨env,S,J,h,hE,q⟩=>⟨env,S,J,h,hE,q.bind.imp fun ds S1 J1 H1 e1 a1 g1 q1 xs rx=>by
  obtain⟨w,ew,k⟩:=q1.lift
  have hl:=ha.len _ _ _ _ e1
  match ds,hl with
  | [d],_=>
   obtain⟨x,rfl,r⟩:=zFk (ds:=[]) rx
   cases d with
   | int j=>
    unfold DS.zEg at ew
    simp only at ew
    by_cases hf:DS.fits62 j=true
    ·rw[xc hf]at ew;cases ew
     obtain rfl:=r
     refine⟨j,rfl,(fits_of hf).1,(fits_of hf).2,k J1 H1 a1 .refl _ ?_⟩
     have e:DS.zEs 0 j=(List.range j.toNat).map fun(k:Nat)=>D.int (0+k):=by unfold DS.zEs;rw[Int.sub_zero]
     rw[e]
     exact zLv
    ·rw[xf hf]at ew;cases ew
   | _=>cases ew⟩⟩
theorem zJd {tg a b:Expr}{p pos:Pos}{am:DS.AM}(hg:Gl X "range") (hm:X.mg "range"=none) (ha:DA X K E [a,b] am) (h:nst a=true:=by rfl) (h2:nst b=true:=by rfl):DI X K E tg (.Call (.Name "range" p) [a,b] [] pos) (DS.zAw am):=
 ⟨(qrange2' hg hm ha.h h h2).imp fun σ H R ⟨env,S,J,h,hE,q⟩=>⟨env,S,J,h,hE,q.bind.imp fun ds S1 J1 H1 e1 a1 g1 q1 xs rx=>by
  obtain⟨w,ew,k⟩:=q1.lift
  have hl:=ha.len _ _ _ _ e1
  match ds,hl with
  | [d,d'],_=>
   obtain⟨x,y,rfl,r,r'⟩:=zHu rx
   cases d with
   | int i=>
    cases d' with
    | int j=>
     unfold DS.zEg at ew
     simp only at ew
     by_cases hf:(DS.fits62 i && DS.fits62 j)=true
     ·rw[xc hf]at ew;cases ew
      rw[xM]at hf
      obtain rfl:=r;obtain rfl:=r'
      exact⟨i,j,rfl,⟨(fits_of hf.1).1,(fits_of hf.1).2,(fits_of hf.2).1,(fits_of hf.2).2⟩,k J1 H1 a1 .refl _ zLv⟩
     ·rw[xf hf]at ew;cases ew
    | _=>cases ew
   | _=>cases ew⟩⟩
theorem zHj {e:Expr}{m:DS.EM}{p p2 pos pos2:Pos}(hc:X.calm=true) (he:DE X K E e m) (hgl:Gl X "list") (hml:X.mg "list"=none) (hgr:Gl X "reversed") (hmr:X.mg "reversed"=none) (h:nst e=true:=by rfl) (hK:X.K=K:=by rfl):
  DF X K E (.Call (.Name "list" p) [.Call (.Name "reversed" p2) [e] [] pos2] [] pos) (DS.eUn DS.revL m):=by
 subst hK
 refine⟨(qlistrev' hc he.h hgl hml hgr hmr h).imp fun σ H Q ⟨env,S,J,ha,hE,q⟩=>⟨env,S,J,ha,hE,q.bind.imp fun d S1 J1 H1 _ a1 g1 q1 x rx=>?_⟩⟩
 obtain⟨c,ec,k⟩:=q1.lift
 unfold DS.revL at ec
 split at ec
 ·rename_i l el
  cases ec
  obtain⟨a,xs,rfl,hq,rl⟩:=zLk a1 rx el
  exact⟨a,xs,rfl,hq,fun p n=>k J1 H1 a1 .refl p _ n ⟨_,rfl,rl.reverse⟩⟩
 ·cases ec
structure DPs (X:Cx) (K:PySem.W.Frag) (E:XE) (pos:Pos) (keys:List (Option Expr)) (values:List Expr) (ks:List Key) (am:DS.AM):Prop where
 ex:∃trs,SPs X pos keys values trs/\∀σ H Q,(∃env S J,AbS K J S H/\RepE K J H env σ/\Post K E J H (am env S) (fun vs _ J' H'=>∀xs,RepL K J' H' vs xs->Q ((ks.map kV).zip xs) H'))->zL5 trs σ H Q
 len:∀env S ds S',am env S=.ok ds S'->ds.length=ks.length
theorem zWr {pos:Pos}:DPs X K E pos [] [] [] DS.aNil:=⟨⟨[],zR9,fun σ H Q hz4=>by obtain⟨env,S,J,ha,he,q⟩:=hz4;exact q J H ha .refl [] rfl⟩,fun _ _ _ _ e=>by cases e;rfl⟩
theorem zIg {pos kp:Pos}{x:Str}{j:_}{v:Expr}{ks:List (Option Expr)}{vs:List Expr}{kl:List Key}{m:DS.EM}{am:DS.AM}(hv:DE X K E v m) (hr:DPs X K E pos ks vs kl am):DPs X K E pos (some (.Constant (.str x) j kp)::ks) (v::vs) (.inr x::kl) (DS.zA0 m am):=by
 obtain⟨trs,hp,hq⟩:=hr.ex
 refine⟨⟨_,zOg (zOr (x:=x)) hv.h hp,fun σ H Q ⟨env,S,J,ha,he,q⟩=>⟨env,S,J,ha,he,q.bind.imp fun d S1 J1 H1 _ a1 g1 q1 y ry=>hq σ H1 _ ⟨env,S1,J1,a1,he.grow g1,q1.bind.imp fun ds S2 J2 H2 _ a2 g2 q2 xs rx=>
  q2 J2 H2 a2 .refl (y::xs) ⟨y,xs,rfl,Rep.grow g2 _ _ ry,rx⟩⟩⟩⟩,fun env S ds S' e1=>?_⟩
 unfold DS.zA0 at e1
 cases e2:m env S with
 | ok d S1=>
  rw[e2,Rs.bind_ok]at e1
  cases e3:am env S1 with
  | ok dr S2=>rw[e3,Rs.bind_ok]at e1;cases e1;simp[hr.len _ _ _ _ e3]
  | _=>rw[e3]at e1;cases e1
 | _=>rw[e2]at e1;cases e1
theorem zHd:∀{kvs acc:List (Key × V)},((acc++kvs).map (·.1)).Nodup->zFl acc kvs=acc++kvs
 | [],acc,_=>by simp[zFl]
 | p::kvs,acc,h=>by
  have hn:(acc.any fun kv=>decide (kv.1=p.1))=false:=by
   rw[Bool.eq_false_iff]
   intro z
   obtain⟨q,hq,e⟩:=List.any_eq_true.mp z
   rw[vR,xt]at h
   exact(List.nodup_append.mp h).2.2 q.1 (xk.mpr ⟨q,hq,rfl⟩) p.1 (xS ..) (of_decide_eq_true e)
  have e:putK acc p.1 p.2=acc++[p]:=by unfold putK;rw[hn];rfl
  show zFl (putK acc p.1 p.2) kvs=_
  rw[e,zHd (by simpa using h)]
  simp
theorem zWw {pos:Pos}{keys:List (Option Expr)}{values:List Expr}{kl:List Key}{ks:List D}{am:DS.AM}(h:DPs X K E pos keys values kl am) (hk:ks=kl.map keyD) (nd:kl.Nodup) (hall:keys.all (·.isSome)=true:=by rfl) (hl:keys.length=values.length:=by rfl) (h0:keys≠[]:=by intro z;cases z) (h15:keys.length<=15:=by decide) (hz:kl.length<=15:=by decide):
  DE X K E (.Dict keys values pos) (DS.zSk ks am):=by
 subst hk
 obtain⟨trs,hp,hq⟩:=h.ex
 refine⟨(zRn hp hall hl h0 h15).imp fun σ H Q ⟨env,S,J,ha,he,q⟩ p n=>hq σ _ _ ⟨env,S++[.dct false [] []],J++[p],ha.name (o:=.dK []) (d:=.dct false [] []) n ⟨[],.inl ⟨rfl,[],rfl,rfl,rfl⟩,rfl⟩,he.grow (.name n),(Post.grow (Grow.name n) q).bind.imp fun vs S1 J1 H1 e1 a1 g1 q1 xs rx=>?_⟩⟩
 have ep:(J++[p])[S.length]?=some p:=by rw[<- ha.len,vq (xh _)];simp
 have ep1:=g1.pre _ _ ep
 have hlen:=h.len _ _ _ _ e1
 by_cases hc:S1[S.length]?=some (.dct false [] [])
 ·rw[xc hc]at q1
  obtain⟨o,eo,rc⟩:=a1.ob _ _ _ ep1 hc
  obtain⟨zs,t,_⟩:=rc
  have ho:o=.dK []:=by
   rcases t with⟨_,kvs,rfl,e,_⟩|⟨z,_⟩
   ·cases kvs with
    | nil=>rfl
    | cons a r=>cases e
   ·cases z
  subst ho
  have lx:kl.length=xs.length:=by rw[<- hlen];exact rx.length
  have m1:(kl.zip xs).map (·.1)=kl:=by rw[List.map_fst_zip (by nofun)]
  have m2:(kl.zip xs).map (·.2)=xs:=by rw[List.map_snd_zip (by nofun)]
  refine⟨eo,kl.zip xs,?_,?_,?_⟩
  ·rw[List.zip_map_left]
   rfl
  ·rw[uY];lia
  ·rw[zHd (acc:=[]) (by rw[ud,m1];exact nd),ud]
   refine q1 J1 _ (a1.write ep1 ⟨xs,.inl ⟨rfl,_,rfl,?_,m2.symm⟩,rx⟩) (.write ep1) (.ref p) ⟨p,ep1,rfl⟩
   rw[show kl.map keyD=((kl.zip xs).map (·.1)).map keyD by rw[m1],xG]
   rfl
 ·rw[xf hc]at q1;exact False.elim q1
end
end L2
namespace L2
open PySem PySem.Spec PyProof.Rows
open DS (D Store Exn Rs SR)
theorem zO4 {K:PySem.W.Frag}{F:DS.Fn}{H:Hp}{a:Addr}{ns:List Int}{XX:XK}(h:∃S,F [.klst (ns.map D.int)] []=.ok (.bl true) S) (hS:SqL K H a (ns.map V.int)):spOf K XE0 F [.ref a] H (fun v _=>v=.bl true) XX:=by
 obtain⟨S,e⟩:=h
 refine⟨[],[],[.klst (ns.map D.int)],⟨rfl,List.nodup_nil,fun i a d e _=>by simp at e⟩,⟨.ref a,[],rfl,⟨a,ns.map V.int,rfl,?_,.ints⟩,rfl⟩,?_⟩
 ·rcases hS with h|h
  ·exact .inl ⟨h,by simp⟩
  ·exact .inr h
 ·rw[e]
  exact fun J' H' _ _ v r=>r
end L2
namespace L2
open PySem PySem.Spec PyProof.Rows
open DS (D Store Exn Rs SR)
section
variable {X:Cx}{K:PySem.W.Frag}{E:XE}{J:Js}{S:Store}{H:Hp}{d d1 d2:D}{v:V}{pins:List (Addr × Obj)}{σ:St}{s:Shared}
theorem zMl (xs:List Value) (i:Nat) (hi:i<xs.length):xs[((xs.length:Int)-1+-1*(i:Int)).toNat]?=xs.reverse[i]?:=by
 rw[List.getElem?_reverse hi]
 congr 1
 lia
theorem zMm (xs:List Value) (f:Nat->Option Value) (hf:∀i,i<xs.length->f i=xs[i]?):(List.range xs.length).filterMap f=xs:=by
 have:∀n,n<=xs.length->(List.range n).filterMap f=xs.take n:=by
  intro n
  induction n with
  | zero=>intro _;rfl
  | succ n ih=>
   intro hn
   rw[List.range_succ,List.filterMap_append,ih (by nofun),List.take_add_one]
   rw[xp (by nofun)]
   have e:f n=some (xs[n]'(by nofun)):=by rw[hf n (by nofun),xp (by nofun)]
   simp[e]
 rw[this _ (xh _),List.take_length]
end
end L2
namespace L2
open PySem PySem.Spec PyProof.Rows
open DS (D Store Exn Rs SR)
section
variable {prog:Program}{w:World}{A:Around}{E:Value->Shared->Prop}{s:Shared}
theorem zKx {sl:Addr}{t:Tok}{n:Nat}{Q:Int × Int × Nat->Shared->Prop}(hs:s.heap.IsSliceOf sl .none .none (.int (-1) t)) (h:Q ((n:Int)-1,-1,n) s):wpAny (model prog w) A (Builtin.Slice.sliceApplied (.ref sl) (pure (n:Int))) Q E s:=by
 obtain⟨os,hos,hcs,hds⟩:=id hs
 unfold Builtin.Slice.sliceApplied Builtin.Slice.sliceFields
 refine xa (xa (xD hos hds (x:=.none) rfl (xa (xD hos hds (x:=.none) rfl (xa (xD hos hds (x:=.int (-1) t) rfl (xg (xa (HT.slicePart_ (.int (-1) t) ?_)))))))))
 refine(show wpAny _ _ (if((-1:Int) == 0)=true then _ else _) _ _ s from ?_)
 rw[xf (by decide)]
 refine xa (HT.slicePart_ .none (xa (HT.slicePart_ .none (xa (xg ?_)))))
 have e:Builtin.Slice.sliceAdjust none none (-1) (n:Int)=((n:Int)-1,-1):=by simp[Builtin.Slice.sliceAdjust]
 have e2:Builtin.Slice.slicePlaces ((n:Int)-1) (-1) (-1)=n:=by
  unfold Builtin.Slice.slicePlaces
  rw[xf (by decide),show(- -1:Int)=1 by decide,Int.ediv_one]
  split <;> lia
 refine(show wpAny _ _ (match Builtin.Slice.sliceAdjust none none (-1) (n:Int)with|(lo,hi)=>pure (lo,(-1:Int),Builtin.Slice.slicePlaces lo hi (-1))) _ _ s from ?_)
 rw[e]
 dsimp only
 rw[e2]
 exact xg h
theorem zFb {t sl:Addr}{its:List Value}{tk:Tok}{Q:Value->Shared->Prop}(ht:IsTup s.heap t its.toArray) (hs:s.heap.IsSliceOf sl .none .none (.int (-1) tk)) (h:Q (.ref s.heap.objs.size) { s with heap:=s.heap.push { cls:=.type "tuple",data:=.seq its.reverse.toArray } }) (hz:its.length<=sizeLine):
  wpAny (model prog w) A (getItem (.ref t) (.ref sl)) Q E s:=by
 have htake:sizeOk (.seq its.reverse.toArray):=by show its.reverse.toArray.size<=sizeLine;simpa using hz
 obtain⟨os,hos,hcs,hds⟩:=id hs
 have hTs:s.TypeIs (.ref sl) "slice":=⟨os,hos,hcs⟩
 unfold getItem
 try with_reducible refine xF ?_
 first|refine xa (xg ?_)|skip
 refine xa (wpAny_sequenceKey ht.typeIs (by decide) (xa (vF (name:=Str.ofString "__getitem__") ht.typeIs vZ (vk vZ ht.typeIs entry_tuple_getitem ?_ (args_tuple_getitem _ _)))))
 refine(show wpAny _ _ (Builtin.Tuple.tupleItemsOf (.ref t) >>= _) _ _ s from xa (tupleItemsOf_ ht (xa (uc hTs ?_))))
 rw[xc (by decide)]
 refine xa (zKx (n:=its.toArray.size) hs ?_)
 refine(show wpAny _ _ (if(((its.toArray.size:Int)-1 == 0 && (-1:Int) == 1) && its.toArray.size == its.toArray.size)=true then _ else _) _ _ s from ?_)
 rw[xf (by simp)]
 have e:((List.range its.toArray.size).filterMap fun(k:Nat)=>its.toArray[(((its.toArray.size:Nat):Int)-1+(k:Int)*(-1)).toNat]?)=its.reverse:=by
  have hl:its.toArray.size=its.reverse.length:=by simp
  rw[hl]
  refine zMm _ _ fun i hi=>?_
  rw[List.getElem?_toArray,<- zMl its i (by simpa using hi)]
  congr 2
  simp
 rw[e]
 first
  | exact xa (m:=Builtin.Tuple.tupleExact _) (vd (xg ⟨_,rfl,xg h⟩) htake)
  | exact xa (m:=Builtin.Tuple.tupleExact _) (vd (xa (xg (xg ⟨_,rfl,xg h⟩))) htake)
  | exact xa (xa (m:=Builtin.Tuple.tupleExact _) (vd (xg (xg ⟨_,rfl,xg h⟩)) htake))
  | exact xa (xa (m:=Builtin.Tuple.tupleExact _) (vd (xg ⟨_,rfl,xg h⟩) htake))
end
end L2
namespace DS
noncomputable section
open Classical
noncomputable def trk (S:Store):D->Option (Bool × List D)
 | .tup l=>some (true,l)
 | .lst l=>some (false,l)
 | .ref n=>match S[n]? with
  | some (.lst l)=>some (false,l)
  | _=>none
 | _=>none
end
end DS
namespace DS
noncomputable section
open Classical
noncomputable def eOrV (a b:EM):EM:=fun env S=>(a env S).bind fun x S1=>(lift (truth S1 x) S1).bind fun c S1=>if c=true then .ok x S1 else b env S1
end
end DS
namespace DS
noncomputable section
open Classical
noncomputable def zipT (S:Store):List D->Option D
 | [a,b]=>match trk S a,trk S b with
  | some (_,l),some (_,m)=>some (.lst ((l.zip m).map fun p=>.tup [p.1,p.2]))
  | _,_=>none
 | _=>none
end
end DS
namespace L2
open PySem PySem.Spec PyProof.Rows
open TS (sObj zKi adr Tab.ft)
open DS (D Store Exn Rs SR)
section
variable {X:Cx}{K:PySem.W.Frag}{E:XE}
variable {J:Js}{S:Store}{H:Hp}
theorem zZw {a b:Expr}{es:List Expr}{pos:Pos}{ma mb:DS.EM}(ha:DE X K E a ma) (hb:DE X K E (.BoolOp .Or (b::es) pos) mb) (hK:X.K=K:=by rfl):DE X K E (.BoolOp .Or (a::b::es) pos) (DS.eOrV ma mb):=by
 subst hK
 refine⟨⟨fun pins s σ H Q I hq1=>?_⟩⟩
 obtain⟨env,S,J,hA,hE,q⟩:=hq1
 refine BoolOp_or (thn (ha.h.h pins s σ H (fun x H1=>∃J1 S1 d k,AbS X.K J1 S1 H1/\RepE X.K J1 H1 env σ/\Rep X.K J1 H1 d x/\TruV X.K x H1 k/\Post X.K E J1 H1 (if k=true then .ok d S1 else mb env S1) (fun d _ J' H'=>∀v,Rep X.K J' H' d v->Q v H')) I ⟨env,S,J,hA,hE,q.bind.imp fun d S1 J1 H1 _ a1 g1 q1 x rx=>?_⟩) fun v s1 hq1=>?_)
 ·obtain⟨k,e,z⟩:=q1.bind.lift
  exact⟨J1,S1,d,k,a1,hE.grow g1,rx,zNs a1 rx e,z J1 H1 a1 .refl⟩
 ·obtain⟨x,H1,I1,r1,J1,S1,d,k,a1,hE1,rx,tv,z⟩:=hq1
  refine thn (zT4 pins s1 σ H1 x v (fun k' H2=>k'=k/\H2=H1) I1 r1 ⟨k,tv,rfl,rfl⟩) fun c s2 hq1=>?_
  obtain⟨H2,I2,ek,eH⟩:=hq1
  subst ek eH
  cases c with
  | false=>exact hb.h.h pins s2 σ H2 Q I2 ⟨env,S1,J1,a1,hE1,z⟩
  | true=>exact⟨x,H2,I2,r1,z J1 H2 a1 .refl x rx⟩
end
end L2
namespace DS
noncomputable def eqI (_:Store) (x y:D):Option D:=match x,y with
 | .int a,.int b=>some (.bl (decide (a=b)))
 | _,_=>none
noncomputable def neI (_:Store) (x y:D):Option D:=match x,y with
 | .int a,.int b=>some (.bl (!decide (a=b)))
 | _,_=>none
noncomputable def ltI (_:Store) (x y:D):Option D:=match x,y with
 | .int a,.int b=>some (.bl (decide (a<b)))
 | _,_=>none
noncomputable def putN (S:Store) (o k v:D):Option Store:=match o with
 | .ref n=>match S[n]? with
  | some (.dct false ks vs)=>if zFm false k=true/\ks.length<most then some (S.set n (.dct false (put2 ks vs k v).1 (put2 ks vs k v).2))else none
  | _=>none
 | _=>none
theorem zGd {S:Store}{a b:Int}:ltI S (.int a) (.int b)=some (.bl (decide (a<b))):=rfl
theorem zDm {S:Store}{a b:Int}:eqI S (.int a) (.int b)=some (.bl (decide (a=b))):=rfl
theorem zVt {S:Store}{a b:Int}:neI S (.int a) (.int b)=some (.bl (!decide (a=b))):=rfl
end DS
namespace L2
open PySem PySem.Spec PyProof.Rows
open DS (D Store Exn Rs SR)
section
variable {X:Cx}{K:PySem.W.Frag}
theorem ul1 {us:List Value}(h:us.length=1):∃a,us=[a]:=match us,h with | [a],_=>⟨a,rfl⟩
theorem ul2 {us:List Value}(h:us.length=2):∃a b,us=[a,b]:=match us,h with | [a,b],_=>⟨a,b,rfl⟩
theorem ul3 {us:List Value}(h:us.length=3):∃a b c,us=[a,b,c]:=match us,h with | [a,b,c],_=>⟨a,b,c,rfl⟩
theorem yA0 {pins:List (Addr × Obj)}{σ:St}{H:Hp}{s:Shared}{a:Addr}{kvs:List (Key × V)}{k:Key}{v:V}{u r:Value}{A:Around}{E:Value->Shared->Prop}{Q:Unit->Shared->Prop}(I:Inv X pins σ H s) (e:H a=some (.dK kvs)) (l:kvs.length<sizeLine) (ry:RelV (kV k) u) (rv:RelV v r) (h:∀s',Inv X pins σ (upd H a (.dK (putK kvs k v))) s'->Q () s'):
  wpAny (model X.prog X.w) A (setItem (.ref a) u r) Q E s:=by
 obtain⟨z,hd,vs,rel,dd⟩:=zZt I.hok e
 refine wpAny_setItem_pairs (hsz:=by rw[<- rel.length];exact z) (zS6 ry) dd fun h' dd' hs=>h _ ?_
 exact zQ5 I (by rw[e];exact True.intro) hs (let ⟨q,_,_,hq,_⟩:=dd';⟨q,hq⟩) (zTq (xH (zGe kvs k v) l) hd (rel.put k rv) dd')
theorem zUn:PSet X (pOf K DS.putN):=by
 intro pins s σ H o i v ov iv u Q I ro ri rv ⟨J,S,d1,d2,d3,S',ha,r1,r2,r3,e,k⟩
 unfold DS.putN at e
 split at e
 ·rename_i n
  obtain⟨a,ea,rfl⟩:=r1
  obtain⟨c,ec,ob,eo,rc⟩:=ha.at ea
  split at e
  ·rename_i ks vs es
   rw[ec]at es;cases es
   obtain⟨xs,q,rl⟩:=rc
   split at e
   ·rename_i hk
    cases e
    cases ro
    have hk1:=hk.1
    unfold DS.zFm at hk1
    rw[xM]at hk1
    rcases q with⟨_,kvs,rfl,rfl,rfl⟩|⟨z,_⟩
    ·obtain⟨kk,rfl⟩:=zLa hk1.1 fun l z=>by subst z;cases hk1.2
     obtain rfl:=zLp r2
     obtain⟨p1,p2⟩:=zY0 (fun a b=>zLr) (k:=kk) rl r3
     exact yA0 I eo (by have:=hk.2;rw[xn]at this;exact this) ri rv fun s' I'=>⟨_,I',k _ (ha.write ea ⟨_,.inl ⟨rfl,_,rfl,p1,rfl⟩,p2⟩) (.write ea)⟩
    ·cases z
   ·cases e
  ·cases e
 ·cases e
end
end L2
namespace DS
noncomputable section
open Classical
noncomputable def mulE (S:Store) (x y:D):Option D:=match litems S x,y with
 | some l,.int n=>if l≠[]/\0<=n/\l.length*n.toNat<=most/\n<=1000000 then some (.lst (List.replicate n.toNat l).flatten)else none
 | _,_=>mulD S x y
end
end DS
namespace DS
noncomputable section
open Classical
noncomputable def clt (a b:Int × Int):Prop:=a.1<b.1\/(a.1=b.1/\a.2<b.2)
noncomputable def ptD (p:Int × Int):D:=.tup [.int p.1,.int p.2]
noncomputable def ptOf:D->Option (Int × Int)
 | .tup [.int a,.int b]=>some (a,b)
 | _=>none
noncomputable def zK5:List D->Option (List (Int × Int))
 | []=>some []
 | d::l=>match ptOf d,zK5 l with
  | some p,some r=>some (p::r)
  | _,_=>none
noncomputable def insP (p:Int × Int):List (Int × Int)->List (Int × Int)
 | []=>[p]
 | q::r=>if clt p q then p::q::r else if p=q then q::r else q::insP p r
noncomputable def srtP:List (Int × Int)->List (Int × Int)
 | []=>[]
 | p::r=>insP p (srtP r)
noncomputable def ssC (_:Store) (x:D):Option D:=match x with
 | .tup l=>match zK5 l with
  | some cs=>if cs.length<=63 then some (.lst ((srtP cs).map ptD))else none
  | none=>none
 | _=>none
theorem zLe:∀{l:List D}{cs:List (Int × Int)},zK5 l=some cs->l=cs.map ptD
 | [],cs,h=>by cases h;rfl
 | d::l,cs,h=>by
  unfold zK5 at h
  split at h
  ·rename_i p r e1 e2
   cases h
   rw[xt,zLe e2]
   congr 1
   unfold ptOf at e1
   split at e1
   ·cases e1;rfl
   ·cases e1
  ·cases h
theorem zIv:∀(cs:List (Int × Int)),zK5 (cs.map ptD)=some cs
 | []=>rfl
 | p::r=>by rw[xt,zK5,zIv r];rfl
theorem mem_insP {p x:Int × Int}:∀{l:List (Int × Int)},x∈insP p l <-> x=p\/x∈l
 | []=>by unfold insP;simp
 | q::r=>by
  unfold insP
  split
  ·simp
  ·split
   ·rename_i e;subst e;simp
   ·rw[xm,mem_insP,xm]
    exact⟨fun h=>h.elim (fun z=>.inr (.inl z)) fun h=>h.elim .inl fun z=>.inr (.inr z),fun h=>h.elim (fun z=>.inr (.inl z)) fun h=>h.elim .inl fun z=>.inr (.inr z)⟩
theorem mem_srtP {x:Int × Int}:∀{l:List (Int × Int)},x∈srtP l <-> x∈l
 | []=>.rfl
 | p::r=>by unfold srtP;rw[mem_insP,mem_srtP,xm]
theorem zPu {p:Int × Int}:∀{l:List (Int × Int)},l.Pairwise clt->(insP p l).Pairwise clt
 | [],_=>List.pairwise_singleton _ _
 | q::r,h=>by
  have h':=vM.mp h
  unfold insP
  split
  ·rename_i c
   refine vM.mpr ⟨fun x hx=>?_,h⟩
   rcases xm.mp hx with rfl|hx
   ·exact c
   ·have:=h'.1 x hx
    unfold clt at *
    lia
  ·split
   ·exact h
   ·rename_i c n
    refine vM.mpr ⟨fun x hx=>?_,zPu h'.2⟩
    rcases mem_insP.mp hx with rfl|hx
    ·have n':¬ (x.1=q.1/\x.2=q.2):=fun z=>n (Prod.ext z.1 z.2)
     unfold clt at *
     lia
    ·exact h'.1 x hx
theorem zK3:∀(l:List (Int × Int)),(srtP l).Pairwise clt
 | []=>.nil
 | p::r=>zPu (zK3 r)
theorem zTw:∀{l m:List (Int × Int)},l.Pairwise clt->m.Pairwise clt->(∀x,x∈l <-> x∈m)->l=m
 | [],[],_,_,_=>rfl
 | [],q::m,_,_,h=>nomatch (h q).mpr (.head _)
 | p::l,[],_,_,h=>nomatch (h p).mp (.head _)
 | p::l,q::m,h1,h2,h=>by
  have a1:=vM.mp h1
  have a2:=vM.mp h2
  have ir:∀x,¬ clt x x:=fun x z=>by unfold clt at z;lia
  have as:∀x y,clt x y->¬ clt y x:=fun x y z w=>by unfold clt at *;lia
  have e:p=q:=by
   rcases xm.mp ((h p).mp (.head _))with z|z
   ·exact z
   ·rcases xm.mp ((h q).mpr (.head _))with w|w
    ·exact w.symm
    ·exact absurd (a1.1 q w) (as _ _ (a2.1 p z))
  subst e
  rw[zTw a1.2 a2.2 fun x=>?_]
  constructor
  ·intro z
   rcases xm.mp ((h x).mp (.tail _ z))with rfl|w
   ·exact absurd (a1.1 _ z) (ir _)
   ·exact w
  ·intro z
   rcases xm.mp ((h x).mpr (.tail _ z))with rfl|w
   ·exact absurd (a2.1 _ z) (ir _)
   ·exact w
end
end DS
namespace DS
noncomputable section
open Classical
noncomputable def intsOf:List D->Option (List Int)
 | []=>some []
 | .int a::l=>(intsOf l).map (a::·)
 | _=>none
theorem zGi:∀{l:List D}{xs:List Int},intsOf l=some xs->l=xs.map D.int
 | [],xs,h=>by cases h;rfl
 | .int a::l,xs,h=>by
  obtain⟨r,e,rfl⟩:=Option.map_eq_some_iff.mp h
  rw[xt,zGi e]
theorem zE4:∀(xs:List Int),intsOf (xs.map D.int)=some xs
 | []=>rfl
 | a::r=>by rw[xt,intsOf,zE4 r];rfl
noncomputable def bst (p:Int->Int->Prop):Int->List Int->Int
 | a,[]=>a
 | a,b::r=>bst p (if p b a then b else a) r
theorem zQj {p:Int->Int->Prop}(tr:∀a b c,¬ p b a->¬ p c b->¬ p c a) (as:∀a b,p a b->¬ p b a):∀(r:List Int) (a:Int),bst p a r∈a::r/\∀x∈a::r,¬ p x (bst p a r)
 | [],a=>⟨.head _,fun x hx=>by rw[xV.mp hx];exact fun z=>as _ _ z z⟩
 | b::r,a=>by
  obtain⟨h1,h2⟩:=zQj tr as r (if p b a then b else a)
  unfold bst
  refine⟨?_,fun x hx=>?_⟩
  ·rcases xm.mp h1 with z|z
   ·rw[z];split
    ·exact .tail _ (.head _)
    ·exact .head _
   ·exact .tail _ (.tail _ z)
  ·rcases xm.mp hx with rfl|hx
   ·by_cases c:p b x
    ·rw[xc c]at h2 ⊢
     exact tr _ _ _ (h2 b (.head _)) (as _ _ c)
    ·rw[xf c]at h2 ⊢
     exact h2 x (.head _)
   ·rcases xm.mp hx with rfl|hx
    ·by_cases c:p x a
     ·rw[xc c]at h2 ⊢
      exact h2 x (.head _)
     ·rw[xf c]at h2 ⊢
      exact tr _ _ _ (h2 a (.head _)) c
    ·exact h2 x (.tail _ hx)
noncomputable def bstL (p:Int->Int->Prop) (S:Store):List D->Option D
 | [d]=>match(match look S d with|some (.lst l)=>intsOf l|_=>none)with
  | some (a::r)=>some (.int (bst p a r))
  | _=>none
 | _=>none
noncomputable def minI:Store->List D->Option D:=bstL fun a b=>a<b
noncomputable def maxI:Store->List D->Option D:=bstL fun a b=>b<a
theorem zJk {p:Int->Int->Prop}(tr:∀a b c,¬ p b a->¬ p c b->¬ p c a) (as:∀a b,p a b->¬ p b a) {S:Store}{xs:List Int}(hn:xs≠[]):∃v∈xs,bstL p S [.lst (xs.map D.int)]=some (.int v)/\∀x∈xs,¬ p x v:=by
 cases xs with
 | nil=>exact absurd rfl hn
 | cons a r=>
  obtain⟨h1,h2⟩:=zQj tr as r a
  refine⟨_,h1,?_,h2⟩
  show(match intsOf ((a::r).map D.int)with|some (a::r)=>some (D.int (bst p a r))|_=>none)=_
  rw[zE4]
theorem zPb {S:Store}{xs:List Int}(hn:xs≠[]):∃v∈xs,minI S [.lst (xs.map D.int)]=some (.int v)/\∀x∈xs,v<=x:=by
 obtain⟨v,h1,h2,h3⟩:=zJk (p:=fun a b=>a<b) (fun a b c h h'=>by nofun) (fun a b h=>by nofun) (S:=S) hn
 exact⟨v,h1,h2,fun x hx=>Int.not_lt.mp (h3 x hx)⟩
theorem zPd {S:Store}{xs:List Int}(hn:xs≠[]):∃v∈xs,maxI S [.lst (xs.map D.int)]=some (.int v)/\∀x∈xs,x<=v:=by
 obtain⟨v,h1,h2,h3⟩:=zJk (p:=fun a b=>b<a) (fun a b c h h'=>by nofun) (fun a b h=>by nofun) (S:=S) hn
 exact⟨v,h1,h2,fun x hx=>Int.not_lt.mp (h3 x hx)⟩
noncomputable def lstI (S:Store) (d:D):Option (List Int):=match look S d with|some (.lst l)=>intsOf l|_=>none
noncomputable def inI (S:Store) (x y:D):Option D:=match x,lstI S y with
 | .int a,some xs=>some (.bl (decide (a∈xs)))
 | _,_=>none
noncomputable def neLI (S:Store) (x y:D):Option D:=match lstI S x,lstI S y with
 | some xs,some ys=>if xs.length=ys.length then some (.bl (!decide (xs=ys)))else none
 | _,_=>none
noncomputable def neB (_:Store) (x y:D):Option D:=match x,y with
 | .bl a,.bl b=>some (.bl (!decide (a=b)))
 | _,_=>none
theorem zLl {S:Store}{xs:List Int}:lstI S (.lst (xs.map D.int))=some xs:=zE4 xs
theorem zS1 {S:Store}{c:Nat}{xs:List Int}(h:S[c]?=some (.lst (xs.map D.int))):lstI S (.ref c)=some xs:=by
 unfold lstI
 rw[show look S (.ref c)=some (.lst (xs.map D.int))from h]
 exact zE4 xs
noncomputable def revT (_:Store) (x:D):Option D:=match x with
 | .tup l=>some (.tup l.reverse)
 | _=>none
noncomputable def isq (d:D) (T:String):Option Bool:=match d with
 | .tup _=>if T="tuple" then some true else none
 | .ktup _=>if T="tuple" then some true else none
 | .int _=>if T="int" then some true else if T="bool" then some false else none
 | .bl _=>if T="bool" then some true else none
 | _=>none
noncomputable def isiQ (_:Store):List D->Option D
 | [d,.ty T]=>(isq d T).map D.bl
 | _=>none
theorem zPq {l:List D}:isq (.tup l) "tuple"=some true:=by unfold isq;exact xc rfl
theorem zS9 {l:List D}:isq (.ktup l) "tuple"=some true:=by unfold isq;exact xc rfl
theorem zW7 {n:Int}:isq (.int n) "int"=some true:=by unfold isq;exact xc rfl
theorem zZf {n:Int}:isq (.int n) "bool"=some false:=by unfold isq;exact(xf (by decide)).trans (xc rfl)
theorem zZg {b:Bool}:isq (.bl b) "bool"=some true:=by unfold isq;exact xc rfl
theorem zF9 {S:Store}{d:D}{T:String}{b:Bool}(h:isq d T=some b):isiQ S [d,.ty T]=some (.bl b):=by
 show(isq d T).map D.bl=_
 rw[h];rfl
end
end DS
namespace DP
open DS
noncomputable section
noncomputable def zBf:SM:=
  (sSeq (sSet 0 (eCB absB (zA0 (eVar 0) aNil)))
  (sSeq (sSet 1 (eCB absB (zA0 (eVar 1) aNil)))
  (sSeq (zBo (tTru (eVar 1)) (sSeq (sSet 2 (eOp modD (eVar 0) (eVar 1)))
  (sSeq (sSet 0 (eVar 1))
  (sSet 1 (eVar 2)))))
  (sRet (eVar 0)))))
noncomputable def zBe:Fn:=zB0 2 3 zBf
noncomputable def zGx:SM:=
  (sRet (eOp ltI (eOp mulD (eOp ixD (eVar 0) (eC (.int 0))) (eOp ixD (eVar 1) (eC (.int 1)))) (eOp mulD (eOp ixD (eVar 1) (eC (.int 0))) (eOp ixD (eVar 0) (eC (.int 1))))))
noncomputable def zDl:Fn:=zB0 2 2 zGx
noncomputable def zFf:SM:=
  (sRet (eTup (zA0 (eTup (zA0 (eOp ixD (eVar 0) (eC (.int 0))) (zA0 (eC (.int 1)) aNil))) (zA0 (eTup (zA0 (eOp ixD (eVar 0) (eC (.int 1))) (zA0 (eC (.int 1)) aNil))) aNil))))
noncomputable def zE6:Fn:=zB0 1 1 zFf
noncomputable def zIn:SM:=
  (sRet (eOp addD (eOp mulD (eOp ixD (eVar 0) (eC (.int 0))) (eOp ixD (eVar 1) (eC (.int 0)))) (eOp mulD (eOp ixD (eVar 0) (eC (.int 1))) (eOp ixD (eVar 1) (eC (.int 1))))))
noncomputable def zFc:Fn:=zB0 2 2 zIn
noncomputable def zGu:SM:=
  (sSeq (sIf (tB (eOp gtD (eVar 0) (eC (.int 0)))) (sRet (eC (.int 1))) zBa)
  (sSeq (sIf (tB (eOp ltI (eVar 0) (eC (.int 0)))) (sRet (eUn negD (eC (.int 1)))) zBa)
  (sRet (eC (.int 0)))))
noncomputable def zEw:Fn:=zB0 1 1 zGu
noncomputable def zCn:SM:=
  (sRet (eCB zipT (zA0 (eVar 0) (zA0 (eOp addD (eSl slD (eVar 0) (pYes (eC (.int 1))) pNo) (eSl slD (eVar 0) pNo (pYes (eC (.int 1))))) aNil))))
noncomputable def zC3:Fn:=zB0 1 1 zCn
noncomputable def zGz:SM:=
  (sSeq (sSet 1 (zAt 1 [] (iVal (eSl slD (eVar 0) pNo (pYes (eC (.int 63))))) (gName 0) tYes (eCB max2B (zA0 (eVar 0) (zA0 (eOp subD (eC (.int 0)) (eVar 0)) aNil)))))
  (sSeq (sSet 2 (eC (.int 7919)))
  (sSeq (sFor (iVal (eVar 1)) (gName 3) (sSet 2 (eOp modD (eOp addD (eOp mulD (eVar 2) (eC (.int 48271))) (eOp modD (eVar 3) (eC (.int 2147483629)))) (eC (.int 2147483647)))))
  (sRet (zSk [(.str (PySem.Str.ofString "seed")),(.str (PySem.Str.ofString "number")),(.str (PySem.Str.ofString "left"))] (zA0 (eVar 2) (zA0 (eC (.int 0)) (zA0 (eNew (eUn revL (zAt 1 [] (iVal (eVar 1)) (gName 0) (tB (eOp geD (eVar 0) (eOp powD (eC (.int 10)) (eC (.int 18))))) (eVar 0)))) aNil))))))))
noncomputable def zBh:Fn:=zIk 1 4 zGz
noncomputable def zGy:SM:=
  (sSeq (zBo (tAnd (tB (eOp eqI (eOp ixD (eVar 0) (eC (.str (PySem.Str.ofString "number")))) (eC (.int 0)))) (tB (eOp gtD (eCB lenB (zA0 (eOp ixD (eVar 0) (eC (.str (PySem.Str.ofString "left")))) aNil)) (eC (.int 0))))) (sPut putN (eVar 0) (eC (.str (PySem.Str.ofString "number"))) (eMt "list" popM (eOp ixD (eVar 0) (eC (.str (PySem.Str.ofString "left")))) aNil)))
  (sSeq (sSet 2 (eOp ixD (eVar 0) (eC (.str (PySem.Str.ofString "number")))))
  (sSeq (sIf (tB (eOp gtD (eVar 2) (eC (.int 0)))) (sSeq (sPut putN (eVar 0) (eC (.str (PySem.Str.ofString "number"))) (eOp zGj (eVar 2) (eVar 1)))
  (sRet (eOp modD (eVar 2) (eVar 1)))) zBa)
  (sSeq (sSet 3 (eOp modD (eOp addD (eOp mulD (eOp ixD (eVar 0) (eC (.str (PySem.Str.ofString "seed")))) (eC (.int 48271))) (eC (.int 7919))) (eC (.int 2147483647))))
  (sSeq (sPut putN (eVar 0) (eC (.str (PySem.Str.ofString "seed"))) (eOp modD (eOp addD (eOp mulD (eVar 3) (eC (.int 40692))) (eC (.int 104729))) (eC (.int 2147483399))))
  (sSeq (sSet 4 (eOp modD (eOp mulD (eOp ixD (eVar 0) (eC (.str (PySem.Str.ofString "seed")))) (eOp ixD (eVar 0) (eC (.str (PySem.Str.ofString "seed"))))) (eC (.int 2147483563))))
  (sRet (eOp modD (eOp addD (eOp mulD (eOp modD (eOp mulD (eVar 3) (eVar 3)) (eC (.int 2147483629))) (eC (.int 2147483563))) (eVar 4)) (eVar 1)))))))))
noncomputable def zA8:Fn:=zB0 2 5 zGy
noncomputable def zD6:SM:=
  (sSeq (sUnp (gTup [(gName 3),(gName 4),(gName 5)]) (eVar 2))
  (sSeq (sSet 6 (eOp mulD (eOp subD (eOp ixD (eVar 1) (eC (.int 0))) (eOp ixD (eVar 0) (eC (.int 0)))) (eOp subD (eVar 4) (eOp mulD (eOp ixD (eVar 0) (eC (.int 1))) (eVar 5)))))
  (sRet (eOp subD (eVar 6) (eOp mulD (eOp subD (eOp ixD (eVar 1) (eC (.int 1))) (eOp ixD (eVar 0) (eC (.int 1)))) (eOp subD (eVar 3) (eOp mulD (eOp ixD (eVar 0) (eC (.int 0))) (eVar 5))))))))
noncomputable def zC0:Fn:=zB0 3 7 zD6
noncomputable def zBs:SM:=
  (sSeq (sPar [2,3] (zA0 (eCB absB (zA0 (eVar 0) aNil)) (zA0 (eVar 1) aNil)))
  (sSeq (zBo (tB (eOp gtD (eVar 3) (eC (.int 0)))) (sPar [2,3] (zA0 (eVar 3) (zA0 (eOp modD (eVar 2) (eVar 3)) aNil))))
  (sRet (eTup (zA0 (eOp zGj (eVar 0) (eVar 2)) (zA0 (eOp zGj (eVar 1) (eVar 2)) aNil))))))
noncomputable def zAs:Fn:=zB0 2 4 zBs
noncomputable def zBr:SM:=
  (sSeq (sUnp (gTup [(gName 2),(gName 3),(gName 4)]) (eVar 1))
  (sRet (eCB allB (zA0 (zAt 2 [4,2,3] (iVal (eVar 0)) (gTup [(gName 0),(gName 1)]) tYes (eOp geD (eOp addD (eOp mulD (eOp ixD (eVar 0) (eC (.int 0))) (eVar 3)) (eOp mulD (eOp ixD (eVar 0) (eC (.int 1))) (eVar 4))) (eOp mulD (eVar 1) (eVar 2)))) aNil))))
noncomputable def zB6:Fn:=zB0 2 5 zBr
noncomputable def zCo:SM:=
  (sSeq (sIf (tOr (tNot (tTru (eCB isiQ (zA0 (eVar 1) (zA0 (eC (.ty "tuple")) aNil))))) (tB (eOp eqI (eCB lenB (zA0 (eVar 1) aNil)) (eC (.int 0))))) (sRet (eC (.bl false))) zBa)
  (sSeq (sFor (iVal (eVar 1)) (gTup [(gName 2),(gName 3)]) (sSeq (sIf (tOr (tNot (tTru (eCB isiQ (zA0 (eVar 2) (zA0 (eC (.ty "tuple")) aNil))))) (tOr (tNot (tTru (eCB isiQ (zA0 (eVar 3) (zA0 (eC (.ty "int")) aNil))))) (tTru (eCB isiQ (zA0 (eVar 3) (zA0 (eC (.ty "bool")) aNil)))))) (sRet (eC (.bl false))) zBa)
  (sIf (tB (eOp neI (eCB minI (zA0 (zAt 2 [2] (iVal (eVar 0)) (gTup [(gName 0),(gName 1)]) tYes (eOp addD (eOp mulD (eOp ixD (eVar 2) (eC (.int 0))) (eVar 0)) (eOp mulD (eOp ixD (eVar 2) (eC (.int 1))) (eVar 1)))) aNil)) (eVar 3))) (sRet (eC (.bl false))) zBa)))
  (sRet (eC (.bl true)))))
noncomputable def zAy:Fn:=zB0 2 4 zCo
noncomputable def zE9:SM:=
  (sSeq (sSet 2 (zAc zBe (zA0 (eVar 0) (zA0 (eVar 1) aNil))))
  (sSeq (sIf (tB (eOp ltI (eVar 1) (eC (.int 0)))) (sSet 2 (eUn negD (eVar 2))) zBa)
  (sRet (eTup (zA0 (eOp zGj (eVar 0) (eVar 2)) (zA0 (eOp zGj (eVar 1) (eVar 2)) aNil))))))
noncomputable def zCx:Fn:=zB0 2 3 zE9
noncomputable def zGw:SM:=
  (sSeq (sSet 3 (eOp mulD (eOp subD (eOp ixD (eOp ixD (eVar 2) (eC (.int 0))) (eC (.int 0))) (eOp mulD (eOp ixD (eVar 0) (eC (.int 0))) (eOp ixD (eOp ixD (eVar 2) (eC (.int 0))) (eC (.int 1))))) (eOp ixD (eOp ixD (eVar 2) (eC (.int 1))) (eC (.int 1)))))
  (sSeq (sSet 4 (eOp mulD (eOp subD (eOp ixD (eOp ixD (eVar 2) (eC (.int 1))) (eC (.int 0))) (eOp mulD (eOp ixD (eVar 0) (eC (.int 1))) (eOp ixD (eOp ixD (eVar 2) (eC (.int 1))) (eC (.int 1))))) (eOp ixD (eOp ixD (eVar 2) (eC (.int 0))) (eC (.int 1)))))
  (sRet (zAc zEw (zA0 (eOp subD (eOp mulD (eOp subD (eOp ixD (eVar 1) (eC (.int 0))) (eOp ixD (eVar 0) (eC (.int 0)))) (eVar 4)) (eOp mulD (eOp subD (eOp ixD (eVar 1) (eC (.int 1))) (eOp ixD (eVar 0) (eC (.int 1)))) (eVar 3))) aNil)))))
noncomputable def zEx:Fn:=zB0 3 5 zGw
noncomputable def zG5:SM:=
  (sSeq (sIf (tB (eOp eqI (eCB lenB (zA0 (eVar 0) aNil)) (eC (.int 1)))) (sRet (eCB zJ3 (zA0 (eC (.ktup [(.ktup [(.int 1),(.int 0)]),(.ktup [(.int 0),(.int 1)]),(.ktup [(.int (-1)),(.int 0)]),(.ktup [(.int 0),(.int (-1))])])) aNil))) zBa)
  (sSeq (sSet 1 (zAt 2 [] (iVal (zAc zC3 (zA0 (eVar 0) aNil))) (gTup [(gName 0),(gName 1)]) tYes (eTup (zA0 (eOp subD (eOp ixD (eVar 1) (eC (.int 0))) (eOp ixD (eVar 0) (eC (.int 0)))) (zA0 (eOp subD (eOp ixD (eVar 1) (eC (.int 1))) (eOp ixD (eVar 0) (eC (.int 1)))) aNil)))))
  (sSeq (sSet 2 (zAt 1 [] (iVal (eVar 1)) (gName 0) tYes (eTup (zA0 (eUn negD (eOp ixD (eVar 0) (eC (.int 1)))) (zA0 (eOp ixD (eVar 0) (eC (.int 0))) aNil)))))
  (sRet (eIf (tB (eOp eqI (eCB lenB (zA0 (eVar 0) aNil)) (eC (.int 2)))) (eOp addD (eVar 2) (eVar 1)) (eVar 2))))))
noncomputable def zEy:Fn:=zB0 1 3 zG5
noncomputable def zC7:SM:=
  (sSeq (sSet 2 (eOp ixD (eLst (zA0 (eC (.int 1)) (zA0 (eC (.int 2)) (zA0 (eC (.int 2)) (zA0 (eC (.int 3)) (zA0 (eC (.int 5)) (zA0 (eC (.int 900)) aNil))))))) (zAc zA8 (zA0 (eVar 0) (zA0 (eC (.int 6)) aNil)))))
  (sSeq (sUnp (gTup [(gName 3),(gName 4)]) (eTup (zA0 (eOp addD (eOp mulD (eC (.int 2)) (eVar 2)) (eC (.int 1))) (zA0 (eNew (eLst aNil)) aNil))))
  (sSeq (sFor (zAw (zA0 (eVar 1) aNil)) (gName 5) (sSeq (sSet 6 (zAc zA8 (zA0 (eVar 0) (zA0 (eOp mulD (eVar 3) (eVar 3)) aNil))))
  (sSeq (zBo (tB (eOp inI (eVar 6) (eVar 4))) (sSet 6 (eOp modD (eOp addD (eVar 6) (eC (.int 1))) (eOp mulD (eVar 3) (eVar 3)))))
  (zDh (eMt "list" zB7 (eVar 4) (zA0 (eVar 6) aNil))))))
  (sRet (zAt 1 [2,3] (iVal (eVar 4)) (gName 0) tYes (eTup (zA0 (eOp subD (eOp modD (eVar 0) (eVar 2)) (eVar 1)) (zA0 (eOp subD (eOp zGj (eVar 0) (eVar 2)) (eVar 1)) aNil))))))))
noncomputable def zC5:Fn:=zB0 2 7 zC7
noncomputable def zCp:SM:=
  (sSeq (sSet 2 (zAt 1 [1,0] (zAw (zA0 (eC (.int 3)) aNil)) (gName 0) tYes (zAc zC0 (zA0 (eOp ixD (eVar 2) (eVar 0)) (zA0 (eOp ixD (eVar 2) (eOp modD (eOp addD (eVar 0) (eC (.int 1))) (eC (.int 3)))) (zA0 (eVar 1) aNil))))))
  (sSeq (sIf (tAnd (tB (eOp ltI (eCB minI (zA0 (eVar 2) aNil)) (eC (.int 0)))) (tB (eOp gtD (eCB maxI (zA0 (eVar 2) aNil)) (eC (.int 0))))) (sRet (eC (.bl false))) zBa)
  (sSeq (sIf (tB (eOp neLI (eVar 2) (eLst (zA0 (eC (.int 0)) (zA0 (eC (.int 0)) (zA0 (eC (.int 0)) aNil)))))) (sRet (eC (.bl true))) zBa)
  (sSeq (sUnp (gTup [(gName 3),(gName 4),(gName 5)]) (eVar 1))
  (sSeq (sPar [6,7] (zA0 (zAt 1 [5] (iVal (eVar 0)) (gName 0) tYes (eOp mulD (eOp ixD (eVar 0) (eC (.int 0))) (eVar 1))) (zA0 (zAt 1 [5] (iVal (eVar 0)) (gName 0) tYes (eOp mulD (eOp ixD (eVar 0) (eC (.int 1))) (eVar 1))) aNil)))
  (sRet (eAnd (zHh leD leD (eCB minI (zA0 (eVar 6) aNil)) (eVar 3) (eCB maxI (zA0 (eVar 6) aNil))) (zHh leD leD (eCB minI (zA0 (eVar 7) aNil)) (eVar 4) (eCB maxI (zA0 (eVar 7) aNil))))))))))
noncomputable def zC4:Fn:=zB0 2 8 zCp
noncomputable def zD7:SM:=
  (sSeq (sUnp (gTup [(gName 2),(gName 3),(gName 4)]) (zAt 1 [1,0] (zAw (zA0 (eC (.int 3)) aNil)) (gName 0) tYes (eOp ixD (eVar 1) (zAc zA8 (zA0 (eVar 2) (zA0 (eCB lenB (zA0 (eVar 1) aNil)) aNil))))))
  (sSeq (sSet 5 (eNew (eLst (zA0 (eTup (zA0 (eOp ixD (eVar 2) (eC (.int 0))) (zA0 (eOp ixD (eVar 2) (eC (.int 1))) (zA0 (eC (.int 1)) aNil)))) (zA0 (eTup (zA0 (eOp addD (eOp ixD (eVar 2) (eC (.int 0))) (eOp ixD (eVar 3) (eC (.int 0)))) (zA0 (eOp addD (eOp ixD (eVar 2) (eC (.int 1))) (eOp ixD (eVar 3) (eC (.int 1)))) (zA0 (eC (.int 2)) aNil)))) aNil)))))
  (sSeq (zDh (eMt "list" zB7 (eVar 5) (zA0 (eTup (zA0 (eOp addD (eOp addD (eOp ixD (eVar 2) (eC (.int 0))) (eOp ixD (eVar 3) (eC (.int 0)))) (eOp ixD (eVar 4) (eC (.int 0)))) (zA0 (eOp addD (eOp addD (eOp ixD (eVar 2) (eC (.int 1))) (eOp ixD (eVar 3) (eC (.int 1)))) (eOp ixD (eVar 4) (eC (.int 1)))) (zA0 (eC (.int 3)) aNil)))) aNil)))
  (sSeq (sSet 6 (eOp addD (eC (.int 2)) (zAc zA8 (zA0 (eVar 0) (zA0 (eC (.int 11)) aNil)))))
  (sSeq (sPar [7,8] (zA0 (eOp subD (zAc zA8 (zA0 (eVar 0) (zA0 (eC (.int 3)) aNil))) (eC (.int 1))) (zA0 (eOp subD (zAc zA8 (zA0 (eVar 0) (zA0 (eC (.int 3)) aNil))) (eC (.int 1))) aNil)))
  (sSeq (zDh (eMt "list" zB7 (eVar 5) (zA0 (eTup (zA0 (eOp addD (eOp mulD (eOp ixD (eVar 2) (eC (.int 0))) (eVar 6)) (eVar 7)) (zA0 (eOp addD (eOp mulD (eOp ixD (eVar 2) (eC (.int 1))) (eVar 6)) (eVar 8)) (zA0 (eVar 6) aNil)))) aNil)))
  (sSeq (zDh (eMt "list" zB7 (eVar 5) (zA0 (eTup (zA0 (eOp addD (eOp addD (eOp ixD (eVar 2) (eC (.int 0))) (eOp ixD (eVar 3) (eC (.int 0)))) (eVar 7)) (zA0 (eOp addD (eOp addD (eOp ixD (eVar 2) (eC (.int 1))) (eOp ixD (eVar 3) (eC (.int 1)))) (eVar 8)) (zA0 (eC (.int 2)) aNil)))) aNil)))
  (sSeq (zDh (eMt "list" zB7 (eVar 5) (zA0 (eTup (zA0 (eOp subD (eOp addD (eOp mulD (eOp ixD (eVar 2) (eC (.int 0))) (eVar 6)) (zAc zA8 (zA0 (eVar 0) (zA0 (eC (.int 40)) aNil)))) (eC (.int 20))) (zA0 (eOp subD (eOp addD (eOp mulD (eOp ixD (eVar 3) (eC (.int 1))) (eVar 6)) (zAc zA8 (zA0 (eVar 0) (zA0 (eC (.int 40)) aNil)))) (eC (.int 20))) (zA0 (eVar 6) aNil)))) aNil)))
  (sRet (eVar 5))))))))))
noncomputable def zB3:Fn:=zB0 2 9 zD7
noncomputable def zKw:SM:=
  (sRet (zAc zCx (zA0 (eOp addD (eOp mulD (eOp ixD (eVar 0) (eC (.int 0))) (eOp ixD (eVar 1) (eC (.int 1)))) (eOp mulD (eOp ixD (eVar 1) (eC (.int 0))) (eOp ixD (eVar 0) (eC (.int 1))))) (zA0 (eOp mulD (eOp ixD (eVar 0) (eC (.int 1))) (eOp ixD (eVar 1) (eC (.int 1)))) aNil))))
noncomputable def zIf:Fn:=zB0 2 2 zKw
noncomputable def zKv:SM:=
  (sRet (zAc zCx (zA0 (eOp mulD (eOp ixD (eVar 0) (eC (.int 0))) (eOp ixD (eVar 1) (eC (.int 0)))) (zA0 (eOp mulD (eOp ixD (eVar 0) (eC (.int 1))) (eOp ixD (eVar 1) (eC (.int 1)))) aNil))))
noncomputable def zGk:Fn:=zB0 2 2 zKv
noncomputable def zGv:SM:=
  (sRet (zAc zEx (zA0 (eVar 0) (zA0 (eVar 1) (zA0 (zAc zE6 (zA0 (eVar 2) aNil)) aNil)))))
noncomputable def zCw:Fn:=zB0 3 3 zGv
noncomputable def zEe:SM:=
  (sSeq (sSet 2 (eOp addD (eCB zJ3 (zA0 (eVar 0) aNil)) (eOp mulE (eLst (zA0 (eOp ixD (eVar 0) (eC (.int 0))) aNil)) (eCB max2B (zA0 (eC (.int 0)) (zA0 (eOp subD (eC (.int 3)) (eCB lenB (zA0 (eVar 0) aNil))) aNil))))))
  (sSeq (sFor (zAw (zA0 (eC (.int 2)) (zA0 (eCB lenB (zA0 (eVar 2) aNil)) aNil))) (gName 3) (sFor (zAw (zA0 (eC (.int 1)) (zA0 (eVar 3) aNil))) (gName 4) (sFor (zAw (zA0 (eVar 4) aNil)) (gName 5) (sIf (tTru (zAc zC4 (zA0 (eTup (zA0 (eOp ixD (eVar 2) (eVar 3)) (zA0 (eOp ixD (eVar 2) (eVar 4)) (zA0 (eOp ixD (eVar 2) (eVar 5)) aNil)))) (zA0 (eVar 1) aNil)))) (sRet (eC (.bl true))) zBa))))
  (sRet (eC (.bl false)))))
noncomputable def zBb:Fn:=zB0 2 6 zEe
noncomputable def zEj:SM:=
  (sSeq (sSet 1 (zAc zC5 (zA0 (eVar 0) (zA0 (eOp addD (eC (.int 1)) (zAc zA8 (zA0 (eVar 0) (zA0 (eC (.int 6)) aNil)))) aNil))))
  (sSeq (sIf (tB (eOp eqI (zAc zA8 (zA0 (eVar 0) (zA0 (eC (.int 4)) aNil))) (eC (.int 0)))) (sSeq (sUnp (gTup [(gName 2),(gName 3)]) (eOp ixD (eLst (zA0 (eTup (zA0 (eC (.int 1)) (zA0 (eC (.int 0)) aNil))) (zA0 (eTup (zA0 (eC (.int 0)) (zA0 (eC (.int 1)) aNil))) (zA0 (eTup (zA0 (eC (.int 1)) (zA0 (eC (.int 1)) aNil))) (zA0 (eTup (zA0 (eC (.int 2)) (zA0 (eUn negD (eC (.int 1))) aNil))) (zA0 (eTup (zA0 (eUn negD (eC (.int 3))) (zA0 (eC (.int 5)) aNil))) aNil)))))) (zAc zA8 (zA0 (eVar 0) (zA0 (eC (.int 5)) aNil)))))
  (sSet 1 (zAt 1 [2,3,1] (iVal (zAt 1 [0] (iVal (eVar 1)) (gName 0) tYes (zAc zA8 (zA0 (eVar 1) (zA0 (eC (.int 9)) aNil))))) (gName 0) tYes (eTup (zA0 (eOp addD (eOp ixD (eOp ixD (eVar 3) (eC (.int 0))) (eC (.int 0))) (eOp mulD (eVar 1) (eVar 0))) (zA0 (eOp addD (eOp ixD (eOp ixD (eVar 3) (eC (.int 0))) (eC (.int 1))) (eOp mulD (eVar 2) (eVar 0))) aNil)))))) zBa)
  (sRet (eCB zEm (zA0 (eVar 1) aNil)))))
noncomputable def zCi:Fn:=zB0 1 4 zEj
noncomputable def zE7:SM:=
  (sSeq (sSet 2 (zAc zGk (zA0 (eTup (zA0 (eOp ixD (eVar 0) (eC (.int 0))) (zA0 (eC (.int 1)) aNil))) (zA0 (eOp ixD (eVar 1) (eC (.int 0))) aNil))))
  (sSeq (sSet 3 (zAc zGk (zA0 (eTup (zA0 (eOp ixD (eVar 0) (eC (.int 1))) (zA0 (eC (.int 1)) aNil))) (zA0 (eOp ixD (eVar 1) (eC (.int 1))) aNil))))
  (sRet (zAc zIf (zA0 (eVar 2) (zA0 (eVar 3) aNil))))))
noncomputable def zCv:Fn:=zB0 2 4 zE7
noncomputable def zC6:SM:=
  (sSeq (sSet 1 (eNew (eLst aNil)))
  (sSeq (sFor (iVal (eVar 0)) (gName 2) (sSeq (zBo (tAnd (tB (eOp gtD (eCB lenB (zA0 (eVar 1) aNil)) (eC (.int 1)))) (tB (eOp leD (zAc zCw (zA0 (eOp ixD (eVar 1) (eUn negD (eC (.int 2)))) (zA0 (eOp ixD (eVar 1) (eUn negD (eC (.int 1)))) (zA0 (eVar 2) aNil)))) (eC (.int 0))))) (zDh (eMt "list" popM (eVar 1) aNil)))
  (zDh (eMt "list" zB7 (eVar 1) (zA0 (eVar 2) aNil)))))
  (sRet (eVar 1))))
noncomputable def zBk:Fn:=zB0 1 3 zC6
noncomputable def zF1:SM:=
  (sSeq (sSet 1 (eUn ssC (eVar 0)))
  (sSeq (sSet 2 (zAc zBk (zA0 (eVar 1) aNil)))
  (sSeq (sSet 3 (zAc zBk (zA0 (eUn revL (eVar 1)) aNil)))
  (sRet (eCB zEm (zA0 (eOrV (eOp addD (eSl slD (eVar 2) pNo (pYes (eUn negD (eC (.int 1))))) (eSl slD (eVar 3) pNo (pYes (eUn negD (eC (.int 1)))))) (eVar 1)) aNil))))))
noncomputable def zBq:Fn:=zB0 1 4 zF1
noncomputable def zE8:SM:=
  (sSeq (sSet 1 (zAc zBq (zA0 (eVar 0) aNil)))
  (sRet (eCB zEm (zA0 (zAt 1 [1] (iVal (zAc zEy (zA0 (eVar 1) aNil))) (gName 0) tYes (eTup (zA0 (eVar 0) (zA0 (eCB minI (zA0 (zAt 1 [0] (iVal (eVar 1)) (gName 0) tYes (zAc zFc (zA0 (eVar 1) (zA0 (eVar 0) aNil)))) aNil)) aNil)))) aNil))))
noncomputable def zBz:Fn:=zB0 1 2 zE8
noncomputable def zF0:SM:=
  (sRet (eCB allB (zA0 (zAt 2 [1] (iVal (zAc zBz (zA0 (eVar 0) aNil))) (gTup [(gName 0),(gName 1)]) tYes (eNot (zAc zDl (zA0 (zAc zCv (zA0 (eVar 0) (zA0 (eVar 2) aNil))) (zA0 (eTup (zA0 (eVar 1) (zA0 (eC (.int 1)) aNil))) aNil))))) aNil)))
noncomputable def zCh:Fn:=zB0 2 2 zF0
noncomputable def zX1:SM:=
  (sSeq (sSet 1 (zAc zBh (zA0 (eVar 0) aNil)))
  (sSeq (sFor (zAw (zA0 (eC (.int 3)) aNil)) (gName 2) (sSeq (sSet 3 (zAc zCi (zA0 (eVar 1) aNil)))
  (sSeq (sSet 4 (zAc zBz (zA0 (eVar 3) aNil)))
  (sSeq (sIf (tNot (tTru (zAc zAy (zA0 (eVar 3) (zA0 (eVar 4) aNil))))) (sRet (eC (.bl false))) zBa)
  (sSeq (sSet 5 (eOp addD (eUn revT (eVar 3)) (eSl slD (eVar 3) pNo (pYes (eC (.int 1))))))
  (sFor (iVal (zAc zB3 (zA0 (eVar 1) (zA0 (eVar 3) aNil)))) (gTup [(gName 6),(gName 7),(gName 8)]) (sSeq (sSet 9 (zAc zBb (zA0 (eVar 3) (zA0 (eTup (zA0 (eVar 6) (zA0 (eVar 7) (zA0 (eVar 8) aNil)))) aNil))))
  (sSeq (sSet 10 (eTup (zA0 (zAc zAs (zA0 (eVar 6) (zA0 (eVar 8) aNil))) (zA0 (zAc zAs (zA0 (eVar 7) (zA0 (eVar 8) aNil))) aNil))))
  (sSeq (sSet 11 (zAc zCh (zA0 (eVar 3) (zA0 (eVar 10) aNil))))
  (sSeq (sIf (tOr (tNot (tTru (eCB isiQ (zA0 (eVar 11) (zA0 (eC (.ty "bool")) aNil))))) (tOr (tB (eOp neB (eVar 11) (eVar 9))) (tB (eOp neB (zAc zCh (zA0 (eVar 5) (zA0 (eVar 10) aNil))) (eVar 9))))) (sRet (eC (.bl false))) zBa)
  (sIf (tB (eOp neB (zAc zB6 (zA0 (eVar 4) (zA0 (eTup (zA0 (eVar 6) (zA0 (eVar 7) (zA0 (eVar 8) aNil)))) aNil))) (eVar 9))) (sRet (eC (.bl false))) zBa)))))))))))
  (sRet (eC (.bl true)))))
noncomputable def zN4:Fn:=zB0 1 12 zX1
end
end DP
namespace TS
open PySem
noncomputable abbrev zFs (h:Heap) (z TI TO T:Addr) (f:Bool):Prop:=h.get? z=some { cls:=.type "zip",dict:=none,data:=.fields #[rawInt T,.bool f,.bool false,.ref TI,.ref TO],slots:=#[] }
section
variable {prog:Program}{w:World}{A:Around}{E:Value->Shared->Prop}{s:Shared}
theorem alive {a:Addr}{o:Obj}{Q:Option Obj->Shared->Prop}(ho:s.heap.get? a=some o) (h:Q (some o) s):wpAny (model prog w) A (loadIfAlive a) Q E s:=by
 have h':Q (s.heap.get? a) s:=by rw[ho];exact h
 exact fun _ _ _=>h'
theorem zLh {z TI TO T:Addr}{f:Bool}{o:Obj}{Q:Bool->Shared->Prop}(hz:zFs s.heap z TI TO T f) (hT:s.heap.get? T=some o) (h:∀h',zFs h' z TI TO T true->Heap.SameBut z s.heap h'->Q false { s with heap:=h' }):wpAny (model prog w) A (Builtin.SmallTypes.ownedTupleIsFree (.ref z)) Q E s:=by
 unfold Builtin.SmallTypes.ownedTupleIsFree
 refine xa (xD hz rfl (x:=rawInt T) rfl ?_)
 show wpAny _ _ (loadIfAlive ((T:Int).toNat) >>= _) _ _ _
 rw[uT]
 refine xa (alive hT ?_)
 simp only[Option.isNone_some,x9,xO]
 refine xa (xD hz rfl (x:=.bool f) rfl ?_)
 cases f with
 | true=>
  rw[xf (by decide)]
  exact xg (h s.heap hz (Heap.SameBut.refl ..))
 | false=>
  rw[xc (by decide)]
  refine xa (uE hz (by simp) fun g1 z1 s1=>xg ?_)
  exact h g1 z1 s1
theorem zU2 {b1 b2 f:Bool}{z TI TO T i1 i2 l1 l2:Addr}{o:Obj}{k1 k2:Nat}{xs ys:Array Value}{x y:Value}{Q:Option Value->Shared->Prop}(D:ZipApart z TI TO i1 i2 l1 l2)
  (hz:zFs s.heap z TI TO T f) (hT:s.heap.get? T=some o) (hTI:IsPair s.heap TI (.ref i1) (.ref i2)) (h1:KIt b1 s.heap i1 l1 k1) (h2:KIt b2 s.heap i2 l2 k2) (q1:KSq b1 s.heap l1 xs) (q2:KSq b2 s.heap l2 ys) (hx:xs[k1]?=some x) (hy:ys[k2]?=some y)
  (hQ:∀h',zFs h' z TI TO T true->KIt b1 h' i1 l1 (k1+1)->KIt b2 h' i2 l2 (k2+1)->IsPair h' s.heap.objs.size x y->(∀c o,c≠z->c≠i1->c≠i2->s.heap.get? c=some o->h'.get? c=some o)->Q (some (.ref s.heap.objs.size)) { s with heap:=h' }):
  wpAny (model prog w) A (pyNext (.ref z)) Q E s:=by
 have hTy:s.TypeIs (.ref z) "zip":=⟨_,hz,rfl⟩
 unfold pyNext
 refine xa (uS (vF (name:=Str.ofString "__next__") hTy uf (vk uf hTy F.entry_zip_next ?_ (F.args_zip_next_1 _))))
 refine(show wpAny _ _ (field (.ref z) 2 >>= _) _ _ _ from xa (xD hz rfl (x:=.bool false) rfl (show wpAny _ _ (field (.ref z) 3 >>= _) _ _ _ from xa (xD hz rfl (x:=.ref TI) rfl (xa (vm hTI rfl (show wpAny _ _ (Builtin.SmallTypes.ownedTupleIsFree (.ref z) >>= _) _ _ _ from xa (zLh hz hT fun g1 z1 s1=>?_))))))))
 simp only[x9,xO]
 rw[<- Array.forIn_toList]
 simp only[uv,uM]
 refine xa (xa (xa (xF (show wpAny _ _ (Builtin.SmallTypes.nextOf (.ref i1) >>= _) _ _ _ from xa (next_item (h1.xb s1.extBut D.i1z) (q1.xb s1.extBut D.l1z) hx fun g2 h12 s2=>xg ?_)))))
 refine xg ?_
 dsimp only
 refine xa (xa (xF (show wpAny _ _ (Builtin.SmallTypes.nextOf (.ref i2) >>= _) _ _ _ from xa (next_item ((h2.xb s1.extBut D.i2z).xb s2.extBut D.i12.symm) ((q2.xb s1.extBut D.l2z).xb s2.extBut D.l2i1) hy fun g3 h23 s3=>xg ?_))))
 refine xg (xg ?_)
 dsimp only
 have sz:g3.objs.size=s.heap.objs.size:=by rw[s3.1,s2.1,s1.1]
 refine xa (wpAny_newTuple (s:={ s with heap:=g3 }) ?_ (by show 2<=sizeLine;decide))
 have k3:∀c o,c≠z->c≠i1->c≠i2->s.heap.get? c=some o->g3.get? c=some o:=fun c o c1 c3 c4 e=>s3.extBut _ _ c4 (s2.extBut _ _ c3 (s1.extBut _ _ c1 e))
 have z3:zFs g3 z TI TO T true:=s3.extBut _ _ D.i2z.symm (s2.extBut _ _ D.i1z.symm z1)
 have a3:KIt b1 g3 i1 l1 (k1+1):=h12.xb s3.extBut D.i12
 refine xg ⟨_,rfl,xg ?_⟩
 show Q (some (.ref g3.objs.size)) { s with heap:=g3.push { cls:=.type "tuple",data:=.seq #[x,y] } }
 rw[sz]
 refine hQ _ (xj _ z3) (a3.at fun o e=>xj _ e) (h23.at fun o e=>xj _ e) ?_ fun c o c1 c3 c4 e=>xj _ (k3 c o c1 c3 c4 e)
 have:=xu g3 (o:={ cls:=.type "tuple",data:=.seq #[x,y] }) rfl
 rw[sz]at this
 exact this
theorem zX8 {b1 b2 f:Bool}{z TI TO T i1 i2 l1 l2:Addr}{o:Obj}{k1 k2:Nat}{xs ys:Array Value}{Q:Option Value->Shared->Prop}(hh:A.handled=none) (D:ZipApart z TI TO i1 i2 l1 l2)
  (hz:zFs s.heap z TI TO T f) (hT:s.heap.get? T=some o) (hTI:IsPair s.heap TI (.ref i1) (.ref i2)) (h1:KIt b1 s.heap i1 l1 k1) (h2:KIt b2 s.heap i2 l2 k2) (q1:KSq b1 s.heap l1 xs) (q2:KSq b2 s.heap l2 ys) (hend:xs[k1]?=none\/ys[k2]?=none)
  (hQ:∀h',(∀c o,c≠z->c≠i1->c≠i2->s.heap.get? c=some o->h'.get? c=some o)->Q none { s with heap:=h' }):wpAny (model prog w) A (pyNext (.ref z)) Q E s:=by
 have hTy:s.TypeIs (.ref z) "zip":=⟨_,hz,rfl⟩
 unfold pyNext
 have stop:∀(g:Heap) (e:Addr),(∀c o,c≠z->c≠i1->c≠i2->s.heap.get? c=some o->g.get? c=some o)->(∃o,g.get? e=some o/\o.cls=.type "StopIteration")->wpAny (model prog w) A (do
   let b <- isInstance (.ref e) (.type "StopIteration")
   if b=true then pure none else throw (.ref e)) Q E { s with heap:=g }:=fun g e kp hz5=>by obtain⟨o,ho,hc⟩:=hz5;exact xa (yc (b:=true) (T:="StopIteration") ⟨o,ho,hc⟩ isSubtype_stop (xg (hQ _ kp)))
 refine xa (uS (vF (name:=Str.ofString "__next__") hTy uf (vk uf hTy F.entry_zip_next ?_ (F.args_zip_next_1 _))))
 refine(show wpAny _ _ (field (.ref z) 2 >>= _) _ _ _ from xa (xD hz rfl (x:=.bool false) rfl (show wpAny _ _ (field (.ref z) 3 >>= _) _ _ _ from xa (xD hz rfl (x:=.ref TI) rfl (xa (vm hTI rfl (show wpAny _ _ (Builtin.SmallTypes.ownedTupleIsFree (.ref z) >>= _) _ _ _ from xa (zLh hz hT fun g1 z1 s1=>?_))))))))
 simp only[x9,xO]
 rw[<- Array.forIn_toList]
 simp only[uv,uM]
 have hhi:A.in1.handled=none:=hh
 refine xa (xa (xa (xF (show wpAny _ _ (Builtin.SmallTypes.nextOf (.ref i1) >>= _) _ _ _ from xa ?_))))
 cases hx:xs[k1]? with
 | none=>
  refine next_end hhi (h1.xb s1.extBut D.i1z) (q1.xb s1.extBut D.l1z) hx fun g2 e s2 he=>?_
  exact stop g2 e (fun c o c1 c3 _ x=>s2 _ _ c3 (s1.extBut _ _ c1 x)) he
 | some x=>
  have hy:ys[k2]?=none:=by rcases hend with h|h;rw[hx]at h;cases h;exact h
  refine next_item (h1.xb s1.extBut D.i1z) (q1.xb s1.extBut D.l1z) hx fun g2 h12 s2=>xg ?_
  refine xg ?_
  dsimp only
  refine xa (xa (xF (show wpAny _ _ (Builtin.SmallTypes.nextOf (.ref i2) >>= _) _ _ _ from xa (next_end hhi ((h2.xb s1.extBut D.i2z).xb s2.extBut D.i12.symm) ((q2.xb s1.extBut D.l2z).xb s2.extBut D.l2i1) hy fun g4 e s4 he=>?_))))
  exact stop g4 e (fun c o c1 c3 c4 x=>s4 _ _ c4 (s2.extBut _ _ c3 (s1.extBut _ _ c1 x))) he
end
end TS
namespace TS
open PySem
noncomputable abbrev own6 (z TI TO i1 i2 S:Addr):List Addr:=[z,TI,TO,i1,i2,S]
structure ZS (b1 b2:Bool) (h0:Heap) (z TI TO i1 i2 l1 l2 S:Addr) (xs ys:Array Value) (i:Nat) (h:Heap) (Ts:List (Addr × Value × Value)):Prop where
 zip:IsZip h z TI TO .none\/∃T f o,zFs h z TI TO T f/\h.get? T=some o/\T≠S
 ti:IsPair h TI (.ref i1) (.ref i2)
 tu:∃p q,IsPair h TO p q
 k1:KIt b1 h i1 l1 i
 k2:KIt b2 h i2 l2 i
 q1:KSq b1 h l1 xs
 q2:KSq b2 h l2 ys
 kp:∀c o,h0.get? c=some o->h.get? c=some o
 len:Ts.length=i
 at_:∀(j:Nat) (t:Addr × Value × Value),Ts[j]?=some t->xs[j]?=some t.2.1/\ys[j]?=some t.2.2/\IsPair h t.1 t.2.1 t.2.2
 ord:Ts.Pairwise fun a b=>a.1<b.1
 apt:∀t∈Ts,h0.objs.size<=t.1/\t.1 ∉ own6 z TI TO i1 i2 S
 own:∀a∈own6 z TI TO i1 i2 S,h0.objs.size<=a
 sz:h0.objs.size<=h.objs.size
section
variable {prog:Program}{w:World}{A:Around}{E:Value->Shared->Prop}{s:Shared}{b1 b2:Bool}{h0:Heap}{z TI TO i1 i2 l1 l2 S:Addr}{xs ys:Array Value}{i:Nat}{Ts:List (Addr × Value × Value)}
theorem ZS.frame {h h':Heap}(x:ZS b1 b2 h0 z TI TO i1 i2 l1 l2 S xs ys i h Ts) (hS:S ∉ [z,TI,TO,i1,i2]) (n1:l1≠S) (n2:l2≠S) (hz:h.objs.size<=h'.objs.size) (k:∀b o,b≠S->h.get? b=some o->h'.get? b=some o):ZS b1 b2 h0 z TI TO i1 i2 l1 l2 S xs ys i h' Ts:=by
 simp only[xm,xP,xQ,not_or]at hS
 refine⟨?_,k _ _ (xo hS.2.1) x.ti,?_,x.k1.at fun o e=>k _ o (xo hS.2.2.2.1) e,x.k2.at fun o e=>k _ o (xo hS.2.2.2.2) e,x.q1.at fun o e=>k _ o n1 e,x.q2.at fun o e=>k _ o n2 e,fun c o e=>k c o (fun z=>?_) (x.kp c o e),x.len,fun j t e=>?_,x.ord,x.apt,x.own,xH x.sz hz⟩
 ·rcases x.zip with q|⟨T,f,o,q1,q2,q3⟩
  ·exact .inl (k _ _ (xo hS.1) q)
  ·exact .inr ⟨T,f,o,k _ _ (xo hS.1) q1,k _ _ q3 q2,q3⟩
 ·obtain⟨p,q,e⟩:=x.tu
  exact⟨p,q,k _ _ (xo hS.2.2.1) e⟩
 ·exact xq (xr (xl e) (x.own S (by simp))) z
 ·obtain⟨a1,a2,a3⟩:=x.at_ j t e
  have:=(x.apt t (xU e)).2
  simp only[xm,xP,xQ,not_or]at this
  exact⟨a1,a2,k _ _ this.2.2.2.2.2 a3⟩
theorem ZS.item {Q:Option Value->Shared->Prop}{x y:Value}(g:ZS b1 b2 h0 z TI TO i1 i2 l1 l2 S xs ys i s.heap Ts) (D:ZipApart z TI TO i1 i2 l1 l2) (hS:S ∉ [z,TI,TO,i1,i2]) (hSs:S<s.heap.objs.size) (hx:xs[i]?=some x) (hy:ys[i]?=some y)
  (hQ:∀h',ZS b1 b2 h0 z TI TO i1 i2 l1 l2 S xs ys (i+1) h' (Ts++[(s.heap.objs.size,x,y)])->(∀o,s.heap.get? S=some o->h'.get? S=some o)->Q (some (.ref s.heap.objs.size)) { s with heap:=h' }):wpAny (model prog w) A (pyNext (.ref z)) Q E s:=by
 have hS':=hS
 simp only[xm,xP,xQ,not_or]at hS'
 have zl:∀a o,s.heap.get? a=some o->a<s.heap.objs.size:=fun a o e=>xl e
 obtain⟨p,q,hTO⟩:=g.tu
 have lz:z<s.heap.objs.size:=by
  rcases g.zip with q|⟨T,f,o,q1,_⟩
  ·exact zl _ _ q
  ·exact zl _ _ q1
 have li1:i1<s.heap.objs.size:=by obtain⟨o,e,_⟩:=g.k1;exact zl _ _ e
 have li2:i2<s.heap.objs.size:=by obtain⟨o,e,_⟩:=g.k2;exact zl _ _ e
 have lTI:=zl _ _ g.ti
 have lTO:=zl _ _ hTO
 have done:∀h':Heap,(IsZip h' z TI TO .none\/∃T f o,zFs h' z TI TO T f/\h'.get? T=some o/\T≠S)->(∃p q,IsPair h' TO p q)->KIt b1 h' i1 l1 (i+1)->KIt b2 h' i2 l2 (i+1)->IsPair h' s.heap.objs.size x y->(∀c o,c≠z->c≠TO->c≠i1->c≠i2->s.heap.get? c=some o->h'.get? c=some o)->Q (some (.ref s.heap.objs.size)) { s with heap:=h' }:=fun h' c1 c2 c3 c4 c5 kk=>by
  refine hQ h' ⟨c1,kk _ _ D.TIz D.TITO D.TIi1 D.TIi2 g.ti,c2,c3,c4,g.q1.at fun o e=>kk _ o D.l1z D.l1TO D.l1i1 D.l1i2 e,g.q2.at fun o e=>kk _ o D.l2z D.l2TO D.l2i1 D.l2i2 e,fun c o e=>?_,by rw[vD,g.len];rfl,fun j t e=>?_,?_,fun t ht=>?_,g.own,?_⟩ fun o e=>kk _ o hS'.1 hS'.2.2.1 hS'.2.2.2.1 hS'.2.2.2.2 e
  ·have lc:=xl e
   have ne:∀a,a∈own6 z TI TO i1 i2 S->c≠a:=fun a ha=>xq (xr lc (g.own a ha))
   exact kk c o (ne _ (by simp)) (ne _ (by simp)) (ne _ (by simp)) (ne _ (by simp)) (g.kp c o e)
  ·rcases xJ j Ts.length with hj|hj
   ·rw[xX hj]at e
    obtain⟨a1,a2,a3⟩:=g.at_ j t e
    have:=(g.apt t (xU e)).2
    simp only[xm,xP,xQ,not_or]at this
    exact⟨a1,a2,kk _ _ this.1 this.2.2.1 this.2.2.2.1 this.2.2.2.2.1 a3⟩
   ·rw[vq hj]at e
    have hj0:j-Ts.length=0:=by
     rcases xJ (j-Ts.length) 1 with q|q
     ·lia
     ·rw[vK (by simpa using q)]at e;cases e
    rw[hj0]at e
    cases e
    have:j=i:=by have:=g.len;lia
    subst this
    exact⟨hx,hy,c5⟩
  ·refine List.pairwise_append.mpr ⟨g.ord,List.pairwise_singleton _ _,fun a ha b hb=>?_⟩
   rw[xV.mp hb]
   obtain⟨j,hj,e⟩:=yy ha
   have:=(g.at_ j a (by rw[xp hj,e])).2.2
   exact zl _ _ this
  ·rcases vc.mp ht with ht|ht
   ·exact g.apt t ht
   ·rw[xV.mp ht]
    refine⟨g.sz,?_⟩
    simp only[xm,xP,xQ,not_or]
    exact⟨vC lz,vC lTI,vC lTO,vC li1,vC li2,vC hSs⟩
  ·exact xH g.sz (vb (xl c5))
 have nS:s.heap.objs.size≠S:=vC hSs
 rcases g.zip with hz|⟨T,f,o,hz,hT,nT⟩
 ·refine zU3 D hz g.ti hTO g.k1 g.k2 g.q1 g.q2 hx hy fun h' c1 c2 c3 c4 c5 kk=>?_
  exact done h' (.inr ⟨s.heap.objs.size,false,_,c1,c5,nS⟩) ⟨_,_,c2⟩ c3 c4 c5 kk
 ·refine zU2 D hz hT g.ti g.k1 g.k2 g.q1 g.q2 hx hy fun h' c1 c3 c4 c5 kk=>?_
  have hT':∃o',h'.get? T=some o':=by
   by_cases e1:T=z
   ·subst e1;exact⟨_,c1⟩
   ·by_cases e2:T=i1
    ·subst e2;obtain⟨o',e',_⟩:=c3;exact⟨o',e'⟩
    ·by_cases e3:T=i2
     ·subst e3;obtain⟨o',e',_⟩:=c4;exact⟨o',e'⟩
     ·exact⟨o,kk T o e1 e2 e3 hT⟩
  obtain⟨o',hT'⟩:=hT'
  exact done h' (.inr ⟨T,true,o',c1,hT',nT⟩) ⟨p,q,kk _ _ D.TOz D.TOi1 D.TOi2 hTO⟩ c3 c4 c5 fun c o c1 _ c3 c4 e=>kk c o c1 c3 c4 e
theorem ZS.end_ {Q:Option Value->Shared->Prop}(hh:A.handled=none) (g:ZS b1 b2 h0 z TI TO i1 i2 l1 l2 S xs ys i s.heap Ts) (D:ZipApart z TI TO i1 i2 l1 l2) (hx:xs[i]?=none\/ys[i]?=none)
  (hQ:∀h',(∀c o,c≠z->c≠TO->c≠i1->c≠i2->s.heap.get? c=some o->h'.get? c=some o)->Q none { s with heap:=h' }):wpAny (model prog w) A (pyNext (.ref z)) Q E s:=by
 obtain⟨p,q,hTO⟩:=g.tu
 rcases g.zip with hz|⟨T,f,o,hz,hT,nT⟩
 ·exact zX9 hh D hz g.ti hTO g.k1 g.k2 g.q1 g.q2 hx hQ
 ·exact zX8 hh D hz hT g.ti g.k1 g.k2 g.q1 g.q2 hx fun h' kk=>hQ h' fun c o c1 _ c3 c4 e=>kk c o c1 c3 c4 e
theorem zQt {R:Result->Shared->Prop}(hh:A.handled=none) (D:ZipApart z TI TO i1 i2 l1 l2) (hS:S ∉ [z,TI,TO,i1,i2]) (n1:l1≠S) (n2:l2≠S) (hn:xs.size<=sizeLine) (res:Value):
  ∀(k i:Nat) (s:Shared) (Ts:List (Addr × Value × Value)) (c:Nat),min xs.size ys.size-i=k->i<=min xs.size ys.size->ZS b1 b2 h0 z TI TO i1 i2 l1 l2 S xs ys i s.heap Ts->s.heap.get? S=some { cls:=.type "list",dict:=none,data:=.seq (Ts.map fun t=>Value.ref t.1).toArray c,slots:=#[] }->
  (∀(h':Heap) (Ts':List (Addr × Value × Value)) (c':Nat),(∀c o,h0.get? c=some o->h'.get? c=some o)->h0.objs.size<=h'.objs.size->Ts'.length=min xs.size ys.size->(∀(j:Nat) (t:Addr × Value × Value),Ts'[j]?=some t->xs[j]?=some t.2.1/\ys[j]?=some t.2.2/\IsPair h' t.1 t.2.1 t.2.2)->Ts'.Pairwise (fun a b=>a.1<b.1)->(∀t∈Ts',h0.objs.size<=t.1/\t.1≠S)->
   h'.get? S=some { cls:=.type "list",dict:=none,data:=.seq (Ts'.map fun t=>Value.ref t.1).toArray c',slots:=#[] }->R (.ok (.ret res)) { s with heap:=h' })->
  codeAny (model prog w) A (.builtin "list.extend.loop" ⟨[.ref S,.ref z,res],[]⟩) R s:=by
 have hS':=hS
 simp only[xm,xP,xQ,not_or]at hS'
 have hhi:A.in1.handled=none:=hh
 intro k
 induction k with
 | zero=>
  intro i s Ts c hk hi g hSl hR
  refine uR F.entry_extend_loop ?_
  rw[yg yd _]
  show wpAny _ A.in1 (pyNext (.ref z) >>= _) _ _ s
  refine xa (g.end_ hhi D (by
   rcases Nat.le_total xs.size ys.size with q|q
   ·exact .inl (yi (by nofun))
   ·exact .inr (yi (by nofun))) fun h' kk=>?_)
  refine xg (hR h' Ts c (fun c o e=>?_) ?_ (by rw[g.len];lia) (fun j t e=>?_) g.ord (fun t ht=>?_) (kk _ _ hS'.1 hS'.2.2.1 hS'.2.2.2.1 hS'.2.2.2.2 hSl))
  ·have lc:=xl e
   have ne:∀a,a∈own6 z TI TO i1 i2 S->c≠a:=fun a ha=>xq (xr lc (g.own a ha))
   exact kk c o (ne _ (by simp)) (ne _ (by simp)) (ne _ (by simp)) (ne _ (by simp)) (g.kp c o e)
  ·have h1:=g.own S (by simp)
   exact xH h1 (vb (xl (kk _ _ hS'.1 hS'.2.2.1 hS'.2.2.2.1 hS'.2.2.2.2 hSl)))
  ·obtain⟨a1,a2,a3⟩:=g.at_ j t e
   have:=(g.apt t (xU e)).2
   simp only[xm,xP,xQ,not_or]at this
   exact⟨a1,a2,kk _ _ this.1 this.2.2.1 this.2.2.2.1 this.2.2.2.2.1 a3⟩
  ·have:=g.apt t ht
   simp only[xm,xP,xQ,not_or]at this
   exact⟨this.1,this.2.2.2.2.2.2⟩
 | succ k ih=>
  intro i s Ts c hk hi g hSl hR
  refine uR F.entry_extend_loop ?_
  rw[yg yd _]
  show wpAny _ A.in1 (pyNext (.ref z) >>= _) _ _ s
  have e1:xs[i]?=some (xs[i]'(by nofun)):=va _
  have e2:ys[i]?=some (ys[i]'(by nofun)):=va _
  refine xa (g.item D hS (xl hSl) e1 e2 fun h' g' kS=>?_)
  have hS2:=kS _ hSl
  show wpAny _ A.in1 (updateSeq S (·.push (.ref s.heap.objs.size)) >>= _) _ _ _
  refine xa ?_
  have asz:(Ts.map fun t=>Value.ref t.1).toArray.size=i:=by simp[g.len]
  have ea:((Ts++[(s.heap.objs.size,xs[i]'(by nofun),ys[i]'(by nofun))]).map fun t=>Value.ref t.1).toArray=(Ts.map fun t=>Value.ref t.1).toArray.push (.ref s.heap.objs.size):=by simp
  obtain⟨c2,hu⟩:∃c2,(h'.update S (Obj.mapSeq (·.push (.ref s.heap.objs.size)))).get? S=some { cls:=.type "list",dict:=none,data:=.seq ((Ts++[(s.heap.objs.size,xs[i]'(by nofun),ys[i]'(by nofun))]).map fun t=>Value.ref t.1).toArray c2,slots:=#[] }:=by
   rw[ea]
   exact⟨_,vJ _ hS2 rfl⟩
  refine ye hS2 rfl (xg ⟨uP yd _,ih (i+1) _ (Ts++[(s.heap.objs.size,xs[i]'(by nofun),ys[i]'(by nofun))]) c2 (by nofun) (by nofun) (g'.frame hS n1 n2 ?_ fun b o hb e=>?_) ?_ fun h2 Ts' c' q1 q2 q3 q4 q5 q6 q7=>?_⟩) (by rw[asz];lia) (by show((Ts.map fun t=>Value.ref t.1).toArray.push _).size<=sizeLine+1;rw[Array.size_push,asz];lia)
  ·rw[Heap.size_update];exact xh _
  ·exact(uq _ _ (xo hb)).trans e
  ·exact hu
  ·exact hR h2 Ts' c' q1 q2 q3 q4 q5 q6 q7
end
end TS
namespace TS
open PySem
theorem zP4:typeLookup (.type "zip") "__len__"=pure none:=by rw[uN,uO];kernel_rfl
theorem zMx:typeLookup (.type "zip") "__length_hint__"=pure none:=by rw[uN,uO];kernel_rfl
section
variable {prog:Program}{w:World}{A:Around}{E:Value->Shared->Prop}{s:Shared}{b1 b2:Bool}{h0:Heap}{z TI TO i1 i2 l1 l2 S:Addr}{xs ys:Array Value}{i:Nat}{Ts:List (Addr × Value × Value)}
theorem zN5 {R:Result->Shared->Prop}(hh:A.handled=none) (res:Value) (c₀:Nat) (g:ZS b1 b2 h0 z TI TO i1 i2 l1 l2 S xs ys 0 s.heap []) (hz:IsZip s.heap z TI TO .none) (D:ZipApart z TI TO i1 i2 l1 l2) (hS:S ∉ [z,TI,TO,i1,i2]) (n1:l1≠S) (n2:l2≠S) (hn:xs.size<=sizeLine)
  (hl:s.heap.get? S=some { cls:=.type "list",data:=.seq #[] c₀ })
  (hR:∀(h':Heap) (Ts':List (Addr × Value × Value)) (c':Nat),(∀c o,h0.get? c=some o->h'.get? c=some o)->h0.objs.size<=h'.objs.size->Ts'.length=min xs.size ys.size->(∀(j:Nat) (t:Addr × Value × Value),Ts'[j]?=some t->xs[j]?=some t.2.1/\ys[j]?=some t.2.2/\IsPair h' t.1 t.2.1 t.2.2)->Ts'.Pairwise (fun a b=>a.1<b.1)->(∀t∈Ts',h0.objs.size<=t.1/\t.1≠S)->
   h'.get? S=some { cls:=.type "list",dict:=none,data:=.seq (Ts'.map fun t=>Value.ref t.1).toArray c',slots:=#[] }->R (.ok (.ret res)) { s with heap:=h' }):
  wpAny (model prog w) A.in1 (Builtin.List.listExtendWith (.ref S) (.ref z) res)
   (fun fin s'=>match fin with|.done f=>R (.ok f) s'|.again c'=>c'.quiet=true/\codeAny (model prog w) A c' R s') (fun e s'=>R (.error e) s') s:=by
 have hT:s.TypeIs (.ref z) "zip":=⟨_,hz,rfl⟩
 have hSz:S≠z:=fun e=>hS (by simp[e])
 have h1:Builtin.List.listSameRef (.ref S) (.ref z)=false:=by simp[Builtin.List.listSameRef,hSz]
 unfold Builtin.List.listExtendWith
 refine xa (uc hT ?_)
 rw[xf (by rw[h1];decide)]
 refine xa (wpAny_pyIter_zip hz ?_)
 refine xa (xF ?_)
 unfold Builtin.List.listLengthHint
 refine xa (uy hT zP4 ?_)
 show wpAny _ A.in1 (specialOf (Value.ref z) (Str.ofString "__length_hint__") >>= _) _ _ _
 refine xa (uy hT zMx ?_)
 refine xg ?_
 dsimp only
 rw[xc (by rfl)]
 refine xa (wpAny_rule ?_)
 have frm:∀(f:Array Value->Array Value) (h:Heap),ZS b1 b2 h0 z TI TO i1 i2 l1 l2 S xs ys 0 h []->ZS b1 b2 h0 z TI TO i1 i2 l1 l2 S xs ys 0 (h.update S (Obj.mapSeq f)) []:=fun f h q=>q.frame hS n1 n2 (by rw[Heap.size_update];exact xh _) fun b o hb e=>(uq _ _ (xo hb)).trans e
 unfold Builtin.List.listTouch
 refine xa (show wpAny _ A.in1 (updateSeq S (·.push .none) >>= fun _=>updateSeq S (·.pop)) _ _ _ from xa (ye hl rfl ?_ (by simp) (by simp)))
 have e1:=vJ (Obj.mapSeq (fun x:Array Value=>x.push .none)) hl rfl
 refine ye e1 rfl ?_ (by show 1<=sizeLine;decide) (by show 0<=sizeLine+1;exact vf _)
 have e2:=vJ (Obj.mapSeq (fun x:Array Value=>x.pop)) e1 rfl
 exact xg ⟨uP yd _,zQt hh D hS n1 n2 hn res _ 0 _ [] _ rfl (vf _) (frm _ _ (frm _ _ g)) e2 hR⟩
theorem zSb {R:Result->Shared->Prop}(hh:A.handled=none) (g:ZS b1 b2 h0 z TI TO i1 i2 l1 l2 S xs ys 0 s.heap []) (hz:IsZip s.heap z TI TO .none) (D:ZipApart z TI TO i1 i2 l1 l2) (hS:S ∉ [z,TI,TO,i1,i2]) (n1:l1≠S) (n2:l2≠S) (hn:xs.size<=sizeLine)
  (hl:s.heap.get? S=some { cls:=.type "list",data:=.seq #[] })
  (hR:∀(h':Heap) (Ts':List (Addr × Value × Value)) (c':Nat),(∀c o,h0.get? c=some o->h'.get? c=some o)->h0.objs.size<=h'.objs.size->Ts'.length=min xs.size ys.size->(∀(j:Nat) (t:Addr × Value × Value),Ts'[j]?=some t->xs[j]?=some t.2.1/\ys[j]?=some t.2.2/\IsPair h' t.1 t.2.1 t.2.2)->Ts'.Pairwise (fun a b=>a.1<b.1)->(∀t∈Ts',h0.objs.size<=t.1/\t.1≠S)->
   h'.get? S=some { cls:=.type "list",dict:=none,data:=.seq (Ts'.map fun t=>Value.ref t.1).toArray c',slots:=#[] }->R (.ok (.ret .none)) { s with heap:=h' }):
  wpAny (model prog w) A.in1 (Builtin.«list.__init__» ⟨[.ref S,.ref z],[]⟩)
   (fun fin s'=>match fin with|.done f=>R (.ok f) s'|.again c'=>c'.quiet=true/\codeAny (model prog w) A c' R s') (fun e s'=>R (.error e) s') s:=by
 have hS':=hS
 simp only[xm,xP,xQ,not_or]at hS'
 show wpAny _ A.in1 (do let old <- Builtin.List.listItems (.ref S);Builtin.List.listUpdate (.ref S) (fun _=>#[]);letGo old.toList.reverse;Builtin.List.listExtendWith (.ref S) (.ref z) .none) _ _ s
 refine xa ?_
 unfold Builtin.List.listItems
 refine xa (vm hl rfl (xg ?_))
 show wpAny _ A.in1 (updateSeq S (fun _=>#[]) >>= fun _=>letGo (#[]:Array Value).toList.reverse >>= fun _=>Builtin.List.listExtendWith (.ref S) (.ref z) .none) _ _ s
 refine xa (ye hl rfl ?_)
 have hS₂:=vJ (Obj.mapSeq (fun _=>(#[]:Array Value))) hl rfl
 have oth:∀b o,b≠S->s.heap.get? b=some o->(s.heap.update S (Obj.mapSeq (fun _=>(#[]:Array Value)))).get? b=some o:=fun b o hb e=>(uq _ _ (xo hb)).trans e
 refine xa (wpAny_letGo ?_)
 exact zN5 (s:={ s with heap:=s.heap.update S (Obj.mapSeq (fun _=>(#[]:Array Value))) }) hh .none _ (g.frame hS n1 n2 (by rw[Heap.size_update];exact xh _) oth) (oth _ _ (xo hS'.1) hz) D hS n1 n2 hn hS₂ hR
theorem zIj {Q:Value->Shared->Prop}(hh:A.handled=none) (hz:IsZip s.heap z TI TO .none) (hTI:IsPair s.heap TI (.ref i1) (.ref i2)) (hTO:∃p q,IsPair s.heap TO p q) (k1:KIt b1 s.heap i1 l1 0) (k2:KIt b2 s.heap i2 l2 0) (q1:KSq b1 s.heap l1 xs) (q2:KSq b2 s.heap l2 ys) (D:ZipApart z TI TO i1 i2 l1 l2)
  (kp:∀c o,h0.get? c=some o->s.heap.get? c=some o) (own:∀a∈[z,TI,TO,i1,i2],h0.objs.size<=a) (hsz:h0.objs.size<=s.heap.objs.size) (hn:xs.size<=sizeLine)
  (hQ:∀(h':Heap) (Ts':List (Addr × Value × Value)) (c':Nat),(∀c o,h0.get? c=some o->h'.get? c=some o)->h0.objs.size<=h'.objs.size->Ts'.length=min xs.size ys.size->(∀(j:Nat) (t:Addr × Value × Value),Ts'[j]?=some t->xs[j]?=some t.2.1/\ys[j]?=some t.2.2/\IsPair h' t.1 t.2.1 t.2.2)->Ts'.Pairwise (fun a b=>a.1<b.1)->(∀t∈Ts',h0.objs.size<=t.1/\t.1≠s.heap.objs.size)->
   h'.get? s.heap.objs.size=some { cls:=.type "list",dict:=none,data:=.seq (Ts'.map fun t=>Value.ref t.1).toArray c',slots:=#[] }->Q (.ref s.heap.objs.size) { s with heap:=h' }):wpAny (model prog w) A (call (.type "list") [.ref z]) Q E s:=by
 refine callType_codes (Q₁:=fun obj s₁=>obj=.ref s.heap.objs.size/\s₁={ s with heap:=s.heap.push { cls:=.type "list",data:=.seq #[] } }) F.called_list (F.typeCall_list_1 _) F.entry_list_init
  (code_list_new _ ⟨rfl,rfl⟩) fun obj s₁ h₁=>?_
 obtain⟨rfl,rfl⟩:=h₁
 have hl:(s.heap.push { cls:=.type "list",data:=.seq #[] }).get? s.heap.objs.size=some { cls:=.type "list",data:=.seq #[] }:=xu _ rfl
 have up:∀b o,s.heap.get? b=some o->(s.heap.push { cls:=.type "list",data:=.seq #[] }).get? b=some o:=fun b o e=>xj _ e
 have ne:∀b o,s.heap.get? b=some o->b≠s.heap.objs.size:=fun b o e=>xq (xl e)
 obtain⟨p,q,hTO⟩:=hTO
 have nz:=ne _ _ hz
 have nI:=ne _ _ hTI
 have nO:=ne _ _ hTO
 have n1:i1≠s.heap.objs.size:=by obtain⟨o,e,_⟩:=k1;exact ne _ _ e
 have n2:i2≠s.heap.objs.size:=by obtain⟨o,e,_⟩:=k2;exact ne _ _ e
 have m1:l1≠s.heap.objs.size:=by obtain⟨o,e,_⟩:=q1;exact ne _ _ e
 have m2:l2≠s.heap.objs.size:=by obtain⟨o,e,_⟩:=q2;exact ne _ _ e
 have hS:s.heap.objs.size ∉ [z,TI,TO,i1,i2]:=by
  simp only[xm,xP,xQ,not_or]
  exact⟨nz.symm,nI.symm,nO.symm,n1.symm,n2.symm⟩
 have g:ZS b1 b2 h0 z TI TO i1 i2 l1 l2 s.heap.objs.size xs ys 0 (s.heap.push { cls:=.type "list",data:=.seq #[] }) []:=
  ⟨.inl (up _ _ hz),up _ _ hTI,⟨p,q,up _ _ hTO⟩,k1.at fun o e=>up _ o e,k2.at fun o e=>up _ o e,q1.at fun o e=>up _ o e,q2.at fun o e=>up _ o e,fun c o e=>up c o (kp c o e),rfl,(fun j t e=>by simp at e),.nil,(fun t ht=>nomatch ht),(fun a ha=>by
   simp only[xm,xP,xQ]at ha
   rcases ha with rfl|rfl|rfl|rfl|rfl|rfl
   ·exact own _ (by simp)
   ·exact own _ (by simp)
   ·exact own _ (by simp)
   ·exact own _ (by simp)
   ·exact own _ (by simp)
   ·exact hsz),xH hsz (by rw[ve];exact Nat.le_succ _)⟩
 refine⟨⟨_,hl,rfl⟩,F.args_list_init_2 _ _,zSb (A:=A.in1) hh g (up _ _ hz) D hS m1 m2 hn hl fun h' Ts' c' a1 a2 a3 a4 a5 a6 a7=>?_⟩
 exact⟨rfl,hQ h' Ts' c' a1 a2 a3 a4 a5 a6 a7⟩
end
end TS
namespace L2
open PySem PySem.Spec PyProof.Rows TS
noncomputable def updT (H:Hp):List (Addr × V × V)->Hp
 | []=>H
 | t::r=>updT (upd H t.1 (.tup [t.2.1,t.2.2])) r
theorem zFx:∀(Ts:List (Addr × V × V)) (H:Hp) (b:Addr),b ∉ Ts.map (·.1)->updT H Ts b=H b
 | [],_,_,_=>rfl
 | t::r,H,b,h=>by
  simp only[xt,xm,not_or]at h
  show updT (upd H t.1 _) r b=_
  rw[zFx r _ b h.2,zAm h.1]
theorem zU0 {P:Program}{w:World}{h:Heap}:∀(Ts:List (Addr × V × V)) (H:Hp),HOk P w H h->(∀t∈Ts,H t.1=none)->(Ts.map (·.1)).Nodup->(∀t∈Ts,∃u v,RelV t.2.1 u/\RelV t.2.2 v/\IsPair h t.1 u v)->HOk P w (updT H Ts) h
 | [],_,x,_,_,_=>x
 | t::r,H,x,hn,nd,al=>by
  have nd':=vX.mp nd
  obtain⟨u,v,ru,rv,hp⟩:=al t (.head _)
  refine zU0 r _ (HOk.adopt x (hn t (.head _)) ⟨by show 2<=sizeLine;decide,[u,v],.cons ru (.cons rv .nil),⟨_,hp,rfl,_,rfl⟩⟩) (fun q hq=>?_) nd'.2 fun q hq=>al q (.tail _ hq)
  rw[zAm fun e=>nd'.1 (xk.mpr ⟨q,hq,e⟩)]
  exact hn q (.tail _ hq)
noncomputable def zL6 (ta:TA):TE:=fun σ H Q=>ta σ H fun vs H1=>∃b1 b2 a b xs ys,vs=[.ref a,.ref b]/\H1 a=some (hoK b1 xs)/\H1 b=some (hoK b2 ys) /\
 ∀(Ts:List (Addr × V × V)) (l:Addr),Ts.map (·.2)=xs.zip ys->(∀t∈Ts,H1 t.1=none)->(Ts.map (·.1)).Nodup->H1 l=none->l ∉ Ts.map (·.1)->Q (.ref l) (upd (updT H1 Ts) l (.lst (Ts.map fun t=>.ref t.1)))
section
variable {X:Cx}{a b:Expr}{p p2 pos pos2:Pos}
theorem zIp:∀(l:List Addr),Vals (l.map fun t=>V.ref t) (l.map fun t=>Value.ref t)
 | []=>.nil
 | x::l=>.cons rfl (zIp l)
theorem zMo {ta:TA}(hc:X.calm=true) (ha:PA X [a,b] ta) (hgl:Gl X "list") (hml:X.mg "list"=none) (hg:Gl X "zip") (hm:X.mg "zip"=none) (hs:starEach [a,b] X.env=[(false,eval a X.env),(false,eval b X.env)]) (hs2:starEach [b] X.env=[(false,eval b X.env)])
  (hs3:starEach [Expr.Call (.Name "zip" p2) [a,b] [] pos2] X.env=[(false,eval (.Call (.Name "zip" p2) [a,b] [] pos2) X.env)]:=by rfl):
  PE X (.Call (.Name "list" p) [.Call (.Name "zip" p2) [a,b] [] pos2] [] pos) (zL6 ta):=by
 intro pins s σ H Q I h
 refine ua (zDk I hgl hml yt ?_)
 refine v9 ?_ hs3 rfl
 rw[hs3]
 show wpAny _ _ (spliced ((false,eval (.Call (.Name "zip" p2) [a,b] [] pos2) X.env)::backTo pos [])) _ _ s
 refine uI ?_
 refine Call_ (zDk I hg hm PyProof.Rows.boot_zip (v9 (thn (ha pos2 pins s σ H _ I h) fun us s1 ⟨vs,H1,I1,r1,q1⟩=>?_) (by rw[hs,hs2]) (by rw[hs2];rfl)))
 obtain⟨b1,b2,l1,l2,xs,ys,e,ha1,hb1,q⟩:=q1
 subst e
 obtain⟨u1,u2,rfl,rfl,rfl⟩:=vals2 r1
 obtain⟨its,rv,p1,z1⟩:=I1.kSq ha1
 obtain⟨jts,rw',p2',z2⟩:=I1.kSq hb1
 refine zW3 p1 p2' fun h1 c1 c2 c3 c4 c5 hk=>?_
 refine uH ?_
 have DZ:∀n:Nat,ZipOwn (n+4) (n+2) (n+3) n (n+1):=fun n=>by constructor <;> exact fun e=>absurd (show(_:Nat)=_ from e) (by nofun)
 have out:∀c,c∈[s1.heap.objs.size+4,s1.heap.objs.size+2,s1.heap.objs.size+3,s1.heap.objs.size,s1.heap.objs.size+1]->s1.heap.objs.size<=c:=fun c hc=>by
  simp only[xm,xP,xQ]at hc
  rcases hc with rfl|rfl|rfl|rfl|rfl
  ·exact uD _ _
  ·exact uD _ _
  ·exact uD _ _
  ·exact xh _
  ·exact uD _ _
 have nl1:l1 ∉ [s1.heap.objs.size+4,s1.heap.objs.size+2,s1.heap.objs.size+3,s1.heap.objs.size,s1.heap.objs.size+1]:=fun hm=>by
  obtain⟨o,e,_⟩:=p1
  exact absurd (xl e) (Nat.not_lt.mpr (out _ hm))
 have nl2:l2 ∉ [s1.heap.objs.size+4,s1.heap.objs.size+2,s1.heap.objs.size+3,s1.heap.objs.size,s1.heap.objs.size+1]:=fun hm=>by
  obtain⟨o,e,_⟩:=p2'
  exact absurd (xl e) (Nat.not_lt.mpr (out _ hm))
 have sz1:s1.heap.objs.size<=h1.objs.size:=by
  have:=xl c1
  exact xH (uD _ _) (vb this)
 have lx:=rv.length
 have ly:=rw'.length
 refine zIj (s:={ s1 with heap:=h1 }) (h0:=s1.heap) (I.ok.hd hc) c1 c2 ⟨_,_,c3⟩ c4 c5 (p1.at fun o e=>hk _ o e) (p2'.at fun o e=>hk _ o e) ((DZ _).apart nl1 nl2) hk out sz1 (by simpa[<- lx]using z1) fun h' Ts c kp sz len at_ ord apt hS=>?_
 have lTs:Ts.length=(xs.zip ys).length:=by rw[len,uY];simp[<- lx,<- ly]
 generalize hL:h1.objs.size=L at hS apt ⊢
 have hLs:s1.heap.objs.size<=L:=by rw[<- hL];exact sz1
 obtain⟨Us,hU1,hU2⟩:∃Us:List (Addr × V × V),Us.map (·.1)=Ts.map (·.1)/\Us.map (·.2)=xs.zip ys:=by
  refine⟨(Ts.map (·.1)).zip (xs.zip ys),?_,?_⟩
  ·rw[List.map_fst_zip];rw[xn];lia
  ·rw[List.map_snd_zip];rw[xn];lia
 have memU:∀t∈Us,s1.heap.objs.size<=t.1/\t.1≠L:=fun t ht=>by
  have:t.1∈Ts.map (·.1):=by rw[<- hU1];exact xk.mpr ⟨t,ht,rfl⟩
  obtain⟨r,hr,e⟩:=xk.mp this
  rw[<- e];exact apt r hr
 have fresh:∀c,s1.heap.objs.size<=c->H1 c=none:=fun c hc=>I1.hok.fresh hc
 have nd:(Us.map (·.1)).Nodup:=by
  rw[hU1]
  exact yj.mpr (ord.imp fun h z=>xq h z)
 have hok0:HOk X.prog X.w H1 h':=I1.hok.kept kp
 have rel:∀t∈Us,∃u v,RelV t.2.1 u/\RelV t.2.2 v/\IsPair h' t.1 u v:=fun t ht=>by
  obtain⟨j,hj,e⟩:=yy ht
  have lU:Us.length=Ts.length:=by have:=congrArg List.length hU1;simpa using this
  obtain⟨a1,a2,a3⟩:=at_ j (Ts[j]'(by nofun)) (xp _)
  have e1:(Us.map (·.1))[j]?=(Ts.map (·.1))[j]?:=by rw[hU1]
  have e2:(Us.map (·.2))[j]?=(xs.zip ys)[j]?:=by rw[hU2]
  rw[xK,xK,xp hj,xp (by nofun),e]at e1
  rw[xK,xp hj,e]at e2
  simp at e1
  obtain⟨f1,f2⟩:=List.getElem?_zip_eq_some.mp e2.symm
  obtain⟨u,hu,ru⟩:=rv.get f1
  obtain⟨v,hv,rv'⟩:=rw'.get f2
  refine⟨u,v,ru,rv',?_⟩
  rw[e1]
  have g1:u=(Ts[j]'(by nofun)).2.1:=by
   have:its.toArray[j]?=some u:=by simpa using hu
   rw[this]at a1;exact xE a1
  have g2:v=(Ts[j]'(by nofun)).2.2:=by
   have:jts.toArray[j]?=some v:=by simpa using hv
   rw[this]at a2;exact xE a2
  rw[g1,g2];exact a3
 have hokT:=zU0 Us H1 hok0 (fun t ht=>fresh _ (memU t ht).1) nd rel
 have nL:L ∉ Us.map (·.1):=fun hm=>by
  obtain⟨t,ht,e⟩:=xk.mp hm
  exact(memU t ht).2 e
 have hLn:updT H1 Us L=none:=by rw[zFx _ _ _ nL];exact fresh _ hLs
 have refs:Us.map (fun t=>V.ref t.1)=(Us.map (·.1)).map fun t=>V.ref t:=by rw[xG];rfl
 have refs':Ts.map (fun t=>Value.ref t.1)=(Us.map (·.1)).map fun t=>Value.ref t:=by rw[hU1,xG];rfl
 have hok:=HOk.adopt (D:=L) (o:=.lst (Us.map fun t=>.ref t.1)) hokT hLn ⟨by
  have lU:Us.length=Ts.length:=by have:=congrArg List.length hU1;simpa using this
  rw[xn,lU,lTs,uY];lia,_,c,by rw[refs];exact zIp _,by rw[hS,refs']⟩
 have keep:∀c,c<s1.heap.objs.size->upd (updT H1 Us) L (.lst (Us.map fun t=>.ref t.1)) c=H1 c:=fun c hc=>by
  rw[zAm (xq (xr hc hLs)),zFx _ _ _ fun hm=>by
   obtain⟨t,ht,e⟩:=xk.mp hm
   have:=(memU t ht).1
   rw[e]at this
   exact absurd hc (Nat.not_lt.mpr this)]
 have keepS:∀c u,H1 c=some u->upd (updT H1 Us) L (.lst (Us.map fun t=>.ref t.1)) c=some u:=fun c u e=>by
  rw[keep c ?_,e]
  rcases xJ c s1.heap.objs.size with q|q
  ·exact q
  ·rw[fresh c q]at e;cases e
 have I4:Inv X pins σ (upd (updT H1 Us) L (.lst (Us.map fun t=>.ref t.1))) { s1 with heap:=h' }:=by
  refine Inv.call' (s:=s1) (s':={ s1 with heap:=h' }) (ch:=[]) I1 rfl ?_ hok I1.bare fun b hb=>nomatch hb
  exact⟨fun b o e _ _ hx=>kp b o e,fun b o e _ _ hx=>⟨o.slots,kp b o e⟩,fun b o e n _=>by rw[keep b (xl e)];exact n,fun b o e hx=>⟨o,kp b o e⟩,
    fun b ys e=>keepS b _ e,fun b o u e=>keepS b _ e,fun b ps e=>⟨#[],by rw[keepS b _ e];simp⟩⟩
 exact⟨.ref L,_,I4,rfl,q Us L hU2 (fun t ht=>fresh _ (memU t ht).1) nd (fresh _ hLs) nL⟩
theorem qlistzip' {ta:TA}(hc:X.calm=true) (ha:SA X [a,b] ta) (hgl:Gl X "list") (hml:X.mg "list"=none) (hg:Gl X "zip") (hm:X.mg "zip"=none) (hs:starEach [a,b] X.env=[(false,eval a X.env),(false,eval b X.env)]) (hs2:starEach [b] X.env=[(false,eval b X.env)]):
  SE X (.Call (.Name "list" p) [.Call (.Name "zip" p2) [a,b] [] pos2] [] pos) (zL6 ta):=⟨zMo hc ha.h hgl hml hg hm hs hs2⟩
end
end L2
namespace L2
open PySem PySem.Spec PyProof.Rows
open DS (D Store Exn Rs SR)
section
variable {X:Cx}{K:PySem.W.Frag}{E:XE}{J:Js}{S:Store}{H:Hp}{d d1 d2:D}{v:V}
theorem zT5 {l:List D}{c:Bool}(ha:AbS K J S H) (r:Rep K J H d v) (e:DS.trk S d=some (c,l)):∃a xs,v=.ref a/\H a=some (hoK c xs)/\RepL K J H l xs:=by
 cases d with
 | tup l=>cases e;obtain⟨a,xs,rfl,t,rl⟩:=r;exact⟨a,xs,rfl,t.1,rl⟩
 | lst l=>cases e;obtain⟨a,xs,rfl,t,rl⟩:=r;exact⟨a,xs,rfl,t.1,rl⟩
 | ref n=>
  obtain⟨a,ea,rfl⟩:=r
  obtain⟨c',ec,o,eo,rc⟩:=ha.at ea
  have e:(match S[n]? with|some (.lst l)=>some (false,l)|_=>none)=some (c,l):=e
  rw[ec]at e
  cases c' with
  | lst l'=>
   cases e
   obtain⟨ys,rfl,rl⟩:=rc
   exact⟨a,ys,rfl,eo,rl⟩
  | _=>cases e
 | _=>cases e
theorem zO7:∀(Ts:List (Addr × V × V)) (l m:List D) (xs ys:List V) (H:Hp),AbS K J S H->RepL K J H l xs->RepL K J H m ys->Ts.map (·.2)=xs.zip ys->(∀t∈Ts,H t.1=none)->(Ts.map (·.1)).Nodup->
  AbS K J S (updT H Ts)/\Grow J H J (updT H Ts)/\RepL K J (updT H Ts) ((l.zip m).map fun p=>.tup [p.1,p.2]) (Ts.map fun t=>.ref t.1)
 | [],l,m,xs,ys,H,ha,r1,r2,e,_,_=>by
  refine⟨ha,.refl,?_⟩
  have:(l.zip m).length=0:=by rw[uY,r1.length,r2.length,<- uY,<- e];rfl
  rw[List.length_eq_zero_iff.mp this]
  rfl
 | t::Ts,[],m,xs,ys,H,ha,r1,r2,e,_,_=>by cases r1;cases e
 | t::Ts,d::l,[],xs,ys,H,ha,r1,r2,e,_,_=>by
  cases r2
  rw[List.zip_nil_right]at e
  cases e
 | t::Ts,d::l,d'::m,xs,ys,H,ha,r1,r2,e,hn,nd=>by
  obtain⟨x,xs,rfl,rx,r1⟩:=r1
  obtain⟨y,ys,rfl,ry,r2⟩:=r2
  have e0:t.2::Ts.map (·.2)=(x,y)::xs.zip ys:=e
  injection e0 with e1 e2
  obtain⟨ta,tx,ty⟩:=t
  simp only[Prod.mk.injEq]at e1
  obtain⟨rfl,rfl⟩:=e1
  have nd':=vX.mp nd
  have g0:Grow J H J (upd H ta (.tup [tx,ty])):=.push (hn (ta,tx,ty) (.head _))
  have a0:AbS K J S (upd H ta (.tup [tx,ty])):=ha.push (hn (ta,tx,ty) (.head _))
  obtain⟨a1,g1,q1⟩:=zO7 Ts l m xs ys _ a0 (RepL.grow g0 _ _ r1) (RepL.grow g0 _ _ r2) e2 (fun q hq=>by
   rw[zAm fun z=>nd'.1 (xk.mpr ⟨q,hq,z⟩)]
   exact hn q (.tail _ hq)) nd'.2
  refine⟨a1,g0.trans g1,?_⟩
  refine⟨.ref ta,_,rfl,Rep.grow g1 (.tup [d,d']) _ ?_,q1⟩
  refine⟨ta,_,rfl,⟨zAu,ha.out (hn (ta,tx,ty) (.head _))⟩,tx,[ty],rfl,?_,ty,[],rfl,?_,rfl⟩
  ·exact Rep.grow g0 _ _ rx
  ·exact Rep.grow g0 _ _ ry
theorem zN9 {a b:Expr}{am:DS.AM}{p p2 pos pos2:Pos}(hc:X.calm=true) (ha:DA X K E [a,b] am) (hgl:Gl X "list") (hml:X.mg "list"=none) (hg:Gl X "zip") (hm:X.mg "zip"=none) (h1:nst a=true:=by rfl) (h2:nst b=true:=by rfl):
  DF X K E (.Call (.Name "list" p) [.Call (.Name "zip" p2) [a,b] [] pos2] [] pos) (DS.eCB DS.zipT am):=by
 refine⟨(qlistzip' hc ha.h hgl hml hg hm (by rw[zB9 h1,zB9 h2];rfl) (by rw[zB9 h2];rfl)).imp fun σ H Q ⟨env,S,J,hA,hE,q⟩=>⟨env,S,J,hA,hE,q.bind.imp fun ds S1 J1 H1 e1 a1 g1 q1 xs rx=>?_⟩⟩
 obtain⟨c,ec,k⟩:=q1.lift
 have hl:=ha.len _ _ _ _ e1
 match ds,hl with
 | [d,d'],_=>
  obtain⟨x,y,rfl,r,r'⟩:=zHu rx
  unfold DS.zipT at ec
  simp only at ec
  cases t1:DS.trk S1 d with
  | none=>rw[t1]at ec;cases ec
  | some p1=>
   cases t2:DS.trk S1 d' with
   | none=>rw[t1,t2]at ec;cases ec
   | some p2=>
    obtain⟨c1,l⟩:=p1
    obtain⟨c2,m⟩:=p2
    rw[t1,t2]at ec
    cases ec
    obtain⟨a',xs,rfl,f1,s1⟩:=zT5 a1 r t1
    obtain⟨b',ys,rfl,f2,s2⟩:=zT5 a1 r' t2
    refine⟨c1,c2,a',b',xs,ys,rfl,f1,f2,fun Ts L hz hn nd hLn nL=>?_⟩
    obtain⟨a2,g2,q2⟩:=zO7 Ts l m xs ys H1 a1 s1 s2 hz hn nd
    exact k J1 (updT H1 Ts) a2 g2 L _ (by rw[zFx _ _ _ nL];exact hLn) ⟨_,rfl,q2⟩
end
end L2
namespace L2
open PySem PySem.Spec PyProof.Rows
open DS (D Store Exn Rs SR)
structure KRep (K:PySem.W.Frag) (d:D) (u:Value):Prop where
 ex:∃v,RelV v u/\∀J H,Rep K J H d v
inductive KReps (K:PySem.W.Frag):List D->List Value->Prop
 | nil:KReps K [] []
 | cons {d:D}{u:Value}{ds:List D}{us:List Value}(h:KRep K d u) (t:KReps K ds us):KReps K (d::ds) (u::us)
section
variable {K:PySem.W.Frag}
theorem zCm {i:Int}{t:Tok}:KRep K (.int i) (.int i t):=⟨.int i,⟨t,rfl⟩,fun _ _=>rfl⟩
theorem KReps.vals:∀{ds:List D}{us:List Value},KReps K ds us->∃xs,Vals xs us/\∀J H,RepL K J H ds xs
 | _,_,.nil=>⟨[],.nil,fun _ _=>rfl⟩
 | _,_,.cons h t=>by
  obtain⟨v,r,hv⟩:=h.ex
  obtain⟨xs,rs,hx⟩:=t.vals
  exact⟨v::xs,.cons r rs,fun J H=>⟨v,xs,rfl,hv J H,hx J H⟩⟩
theorem zEv {a:Addr}{od:Option Addr}{its:Array Value}{n:Nat}{sl:Array (Option Value)}{ds:List D}(l:K.lookup a=some ⟨.type "tuple",od,.seq its n,sl⟩) (hs:its.size<=sizeLine) (h:KReps K ds its.toList):KRep K (.ktup ds) (.ref a):=by
 obtain⟨xs,rs,hx⟩:=h.vals
 exact⟨.ref a,rfl,fun J H=>⟨a,xs,rfl,⟨_,its,n,l,rfl,rfl,hs,rs⟩,hx J H⟩⟩
theorem de_k {X:Cx}{E:XE}{x:Str}{d:D}{u:Value}{pos:Pos}(hg:Gl X x) (hm:X.mg x=some u) (h:KRep K d u) (hd:(x == ("__debug__":Str))=false:=by decide):DE X K E (.Name x pos) (DS.eC d):=by
 obtain⟨v,r,hv⟩:=h.ex
 exact de_c (zRm hg hm r hd) hv
end
end L2
namespace L2
open PySem PySem.Spec PyProof.Rows
open DS (D Store Exn Rs SR)
theorem zM0 (its:List Value):∀(k:Nat) (acc:List Value),List.foldl (fun x1 x2=>x1++x2) acc.toArray (List.replicate k its.toArray)=(acc++(List.replicate k its).flatten).toArray
 | 0,acc=>by simp
 | k+1,acc=>by
  rw[ur,uB,show acc.toArray++its.toArray=(acc++its).toArray by simp,zM0 its k]
  simp[ur]
theorem zL2 {xs:List V}{us:List Value}(h:Vals xs us):∀k:Nat,Vals (List.replicate k xs).flatten (List.replicate k us).flatten
 | 0=>.nil
 | k+1=>by simpa[ur]using h.append (zL2 h k)
section
variable {X:Cx}{K:PySem.W.Frag}{J:Js}{S:Store}{H:Hp}
theorem zO8 {ds:List D}{xs:List V}(h:RepL K J H ds xs):∀k:Nat,RepL K J H (List.replicate k ds).flatten (List.replicate k xs).flatten
 | 0=>rfl
 | k+1=>by simpa[ur]using h.append (zO8 h k)
theorem zVu {pins:List (Addr × Obj)}{σ:St}{s:Shared}{a:Addr}{xs:List V}{n:Int}{t:Tok}{Q:VK}(I:Inv X pins σ H s) (h1:Rd H a (.lst xs)) (hx:xs≠[]) (h0:0<=n) (h2:n<=1000000) (hz:xs.length*n.toNat<=sizeLine)
  (q:∀p,H p=none->Q (.ref p) (upd H p (.lst (List.replicate n.toNat xs).flatten))):wpAny (model X.prog X.w) X.A (binaryOp .Mult (.ref a) (.int n t)) (EP X pins σ Q) X.xe s:=by
 obtain⟨z,its,k,r,hl,e⟩:=I.lstR h1
 have ne:its.toArray.isEmpty=false:=by
  cases its with
  | nil=>exact absurd (yx hl) hx
  | cons u us=>rfl
 have sz:its.toArray.size*n.toNat<=sizeLine:=by rw[xv,<- hl];exact hz
 have sl:sizeLine<=2 ^ 24:=by decide
 refine wpAny_binaryOp_repeat_ref (T:="list") (U:="int") (by decide) ⟨_,e,rfl⟩ (fun s'=>typeIs_int s' n t) noFill_list_mul F.fills_int_mul F.slot_int_rmul repeat_list F.slot_int_index.lookup ?_
 refine call_meets F.slot_int_rmul (typeIs_int s n t) F.entry_int_rmul (F.args_int_rmul_2 _ _) (int___rmul___int_list n t a its.toArray k) ⟨e,rfl,⟨_,e,rfl⟩,?_⟩
 refine call_meets F.slot_list_mul ⟨_,e,rfl⟩ F.entry_list_mul (F.args_list_mul_2 _ _) (AutoListH.list___mul___list_int_3 a its.toArray k n t (by simp[Builtin.List.listFitsIndex];lia) (by nofun) (by simp only[Builtin.List.listTooLong];simpa using sz)) ⟨e,?_⟩
 rw[ne]
 simp only[x9,xO]
 rw[show(#[]:Array Value)=([]:List Value).toArray from rfl,zM0 its n.toNat [],ud]
 exact⟨.ref _,_,I.lnew (t':=s.toks) (zL2 r n.toNat) (by rw[len_rep,Nat.mul_comm];exact hz),rfl,q _ I.fresh⟩
theorem zVp:OpR X (binaryOp .Mult) (r2Of K DS.mulE):=by
 intro pins s σ H x y v u Q I rx ry ⟨J,S,d1,d2,d,ha,r1,r2,e,k⟩
 unfold DS.mulE at e
 split at e
 ·rename_i l n e1
  split at e
  ·rename_i h
   cases e
   obtain⟨a,xs,rfl,h1,q1⟩:=zDj ha r1 e1
   obtain rfl:=r2
   cases rx
   obtain⟨t,rfl⟩:=ry
   have el:=q1.length
   exact zVu I h1 (fun z=>h.1 (by subst z;exact yx el)) h.2.1 h.2.2.2 (by rw[<- el];exact h.2.2.1) fun p n=>k _ _ (ha.push n) (.push n) ⟨p,_,rfl,⟨zAu,ha.out n⟩,RepL.grow (.push n) _ _ (zO8 q1 _)⟩
  ·cases e
 ·exact zAf pins s σ H x y v u Q I rx ry ⟨J,S,d1,_,d,ha,r1,r2,e,k⟩
end
end L2
namespace L2
open PySem PySem.Spec PyProof.Rows
open DS (D Store Exn Rs SR)
section
variable {X:Cx}{K:PySem.W.Frag}
theorem zIy:OpR X (compareOp .Eq) (r2Of K DS.eqI):=by
 intro pins s σ H x y v u Q I rx ry ⟨J,S,d1,d2,d,ha,r1,r2,e,k⟩
 unfold DS.eqI at e
 split at e
 ·cases e
  obtain rfl:=r1
  obtain rfl:=r2
  obtain⟨t,rfl⟩:=rx
  obtain⟨t',rfl⟩:=ry
  exact eq_int ⟨.bl _,H,I,rfl,k _ H ha .refl rfl⟩
 ·cases e
theorem zYr:OpR X (compareOp .NotEq) (r2Of K DS.neI):=by
 intro pins s σ H x y v u Q I rx ry ⟨J,S,d1,d2,d,ha,r1,r2,e,k⟩
 unfold DS.neI at e
 split at e
 ·cases e
  obtain rfl:=r1
  obtain rfl:=r2
  obtain⟨t,rfl⟩:=rx
  obtain⟨t',rfl⟩:=ry
  exact ne_int ⟨.bl _,H,I,rfl,k _ H ha .refl rfl⟩
 ·cases e
theorem zLf:OpR X (compareOp .Lt) (r2Of K DS.ltI):=by
 intro pins s σ H x y v u Q I rx ry ⟨J,S,d1,d2,d,ha,r1,r2,e,k⟩
 unfold DS.ltI at e
 split at e
 ·cases e
  obtain rfl:=r1
  obtain rfl:=r2
  exact yAm pins s σ H _ _ v u Q I rx ry ⟨_,_,rfl,rfl,k _ H ha .refl rfl⟩
 ·cases e
end
end L2
namespace TS
open PySem TB
section
variable {prog:Program}{w:World}{A:Around}{E:Value->Shared->Prop}{s:Shared}
theorem zH4:isSubtype (.type "tuple") (.type "set")=pure false:=by rw[isSubtype_type];kernel_rfl
theorem zH5:isSubtype (.type "tuple") (.type "frozenset")=pure false:=by rw[isSubtype_type];kernel_rfl
theorem zIt {κ:Addr->List Int}{l:Addr}{items:Array Value}{Q:Value->Shared->Prop}(hh:A.handled=none) (hl:s.heap.IsTuple l items) (hu:A.units+10<cLine) (hn:items.size<=299)
  (hk:∀v∈items.toList,∃a,v=.ref a/\TK prog w s.heap (κ a) a)
  (h:∀(h':Heap) (tk:Nat) (es:Array (Int × Value)),IsS prog w κ h' s.heap.objs.size es (zKi w)->es.size<=items.size->(∀e∈es.toList,e.2∈items.toList)->(∀v∈items.toList,∃e∈es.toList,kv κ e=κ (adr v))->
   (∀b o,b<s.heap.objs.size->s.heap.get? b=some o->h'.get? b=some o)->Q (.ref s.heap.objs.size) { s with heap:=h',toks:=tk }):
  wpAny (model prog w) A (call (.type "set") [.ref l]) Q E s:=by
 obtain⟨cc,tl,hmro⟩:=ug.mro;have hmade:=ug.made;have hsub:=ug.sub
 refine wpAny_call (codeAny_of_tree (show wpAny _ _ (callAny (.type "set") _) _ _ _ from ?_))
 refine xg ⟨Code.quiet_builtin _ (by decide +kernel),uR F.entry_type_call ?_⟩;rw[Around.under_plain (weight_type_call_type "set" [.ref l] []) rfl]
 have h1:=ug.notType;have h2:=ug.canCreate;have hct:=F.typeCall_set_1 (.ref l)
 repeat (any_goals (first|assumption|wp_step))
 refine codeAny_mono (zR0 (.ref l) (E:=E) (Q₁:=fun obj s₁=>obj=.ref s.heap.objs.size/\s₁={ s with heap:=s.heap.push (nObj w) }) ⟨rfl,rfl⟩) fun r s₁ hr=>?_
 cases r with
 | error e=>exact hr
 | ok fl=>
  cases fl with
  | ret obj=>
   obtain⟨rfl,rfl⟩:=hr
   have hS:(s.heap.push (nObj w)).get? s.heap.objs.size=some (nObj w):=xu _ rfl
   have hT:Shared.TypeIs { s with heap:=s.heap.push (nObj w) } (.ref s.heap.objs.size) "set":=⟨_,hS,rfl⟩
   have hli:=ug.init.lookup;have hbi:=ug.init.bind (.ref s.heap.objs.size)
   repeat (any_goals (first|assumption|wp_step))
   refine codeAny_mono (codeAny_call_builtin (R:=wants (fun r s₂=>r=.none/\∃h' tk es,s₂={ s with heap:=h',toks:=tk }/\IsS prog w κ h' s.heap.objs.size es (zKi w)/\es.size<=items.size/\(∀e∈es.toList,e.2∈items.toList)/\(∀v∈items.toList,∃e∈es.toList,kv κ e=κ (adr v)) /\
     (∀b o,b<s.heap.objs.size->s.heap.get? b=some o->h'.get? b=some o)) E) ug.init.plain F.entry_set_init (check_set_init_1 hT ?_)) fun r₂ s₂ hr₂=>?_
   ·have hlt:l<s.heap.objs.size:=by obtain⟨o,ho,_⟩:=hl;exact xl ho
    have hl1:(s.heap.push (nObj w)).IsTuple l items:=hl.push _
    have hTl:Shared.TypeIs { s with heap:=s.heap.push (nObj w) } (.ref l) "tuple":=by obtain⟨o,ho,hc,_⟩:=hl1;exact⟨o,ho,hc⟩
    have q1:=zH4;have q2:=zH5;have q3:(Value.type "tuple" == Value.type "dict")=false:=by decide
    unfold Builtin.«set.__init__» noKeywords Builtin.Frozenset.updateFrom
    generalize hPI:pyIter=PI
    wp_walk
    subst hPI
    refine wpAny_pyIter_tuple hl1 (xa (wpAny_runValue ?_))
    have hs2:(s.heap.push (nObj w)).objs.size=s.heap.objs.size+1:=by rw[ve]
    have hneI:l≠(s.heap.push (nObj w)).objs.size:=by rw[hs2];exact xq (uw hlt)
    have hh3:A.in1.in1.in1.handled=none:=by simp[hh]
    have key:∀(i:Nat) (v:Value),items[i]?=some v->∃a,v=.ref a/\a ∉ [(s.heap.push (nObj w)).objs.size]/\a≠s.heap.objs.size/\TK prog w s.heap (κ a) a:=fun i v hv=>by
     obtain⟨a,e,tk⟩:=hk v (by obtain⟨z,e⟩:=v7.mp hv;rw[<- e];simp)
     have ha:a<s.heap.objs.size:=by obtain⟨o,_,_,ho,_⟩:=tk;exact xl ho
     exact⟨a,e,by rw[hs2];simp;exact xq (uw ha),xq ha,tk⟩
    have kp:∀c o,s.heap.get? c=some o->((s.heap.push (nObj w)).push { cls:=.type "tuple_iterator",data:=.fields #[.ref l,.int 0 0] }).get? c=some o:=fun c o e=>xj _ (xj _ e)
    refine loop (h0:=s.heap) (led:=zKi w) ((Walks.tuple hh3 _ l hneI items).toS) s.heap.objs.size ?nA (by show A.units+1+1+1<cLine;lia) key (fun i v v' q q'=>xE (q.symm.trans q')) hn ?nB (items.size-0) 0 _ #[] (by nofun) (vf _) ⟨⟨_,xu _ rfl,rfl,rfl⟩,hl1.push _⟩
     ⟨0,_,xj _ hS,zPw _,(fun e he=>by cases he),(fun q hq=>by cases hq),List.nodup_nil⟩ (vf _) (fun e he=>by cases he) (fun j v hj=>by nofun) (fun c o _ e=>kp c o e) ?nD
    case nA=>
     rw[hs2];simp;exact vC hlt
    case nB=>
     rintro i s' ⟨⟨o,ho,hc,_⟩,_⟩ c hcm o' ho'
     have:c=(s.heap.push (nObj w)).objs.size:=by simpa using hcm
     subst this
     rw[ho]at ho';cases ho';rw[hc];decide
    case nD=>
     intro s' es' mv i' z' m' c'
     obtain⟨h',g',d',tk',os'⟩:=s'
     have eg:g'=s.gens:=mv.gens
     have ed:d'=s.drawn:=mv.drawn
     have eo:os'=s.os:=mv.os
     subst eg ed eo
     refine xg (show wpAny _ _ (ret Value.none) _ _ _ from xg ⟨rfl,h',tk',es',rfl,i',z',fun e he=>?_,fun v hv=>?_,fun b o hb e=>?_⟩)
     ·obtain⟨j,hj,hp⟩:=m' e he
      obtain⟨z,e2⟩:=v7.mp hp
      rw[<- e2];simp
     ·obtain⟨j,hj,e2⟩:=vw.mp hv
      exact c' j v (by simpa using hj) (by rw[<- e2];simp)
     ·refine mv.heap b o ?_ (kp b o e)
      rw[hs2];simp only[xm,xP,xQ,not_or]
      exact⟨xq hb,xq (uw hb)⟩
   ·cases r₂ with
    | error e=>exact hr₂
    | ok fl₂=>
     cases fl₂ with
     | ret r=>
      obtain⟨rfl,h',tk,es,rfl,i1,i2,i3,i4,i5⟩:=hr₂
      repeat (any_goals (first|assumption|wp_step))
      exact h _ _ _ i1 i2 i3 i4 i5
     | _=>exact hr₂.elim
  | _=>exact hr.elim
end
end TS
namespace L2
open PySem PySem.Spec PyProof.Rows
open TS (zIt zKi PL Sd CO rf kv zG7)
open DS (D Store Exn Rs SR ptD srtP)
section
variable {X:Cx}{K:PySem.W.Frag}{E:XE}{J:Js}{S:Store}{H:Hp}
noncomputable abbrev pTr (c:Addr × Int × Int):D:=ptD c.2
theorem zJg:∀{cs:List (Int × Int)}{ys:List V},RepL K J H (cs.map ptD) ys->∃rs:List (Addr × Int × Int),ys=rv rs/\(∀c∈rs,CH H c/\Rep K J H (pTr c) (.ref c.1))/\rs.map (·.2)=cs
 | [],ys,h=>by cases h;exact⟨[],rfl,(fun c hc=>nomatch hc),rfl⟩
 | p::cs,ys,h=>by
  obtain⟨x,r,rfl,hx,hr⟩:=h
  obtain⟨rs,rfl,h1,h2⟩:=zJg hr
  have hx0:=hx
  obtain⟨a,xs,rfl,ht,y1,r1,rfl,rfl,y2,r2,rfl,rfl,rfl⟩:=hx
  refine⟨(a,p)::rs,rfl,fun c hc=>?_,by rw[xt,h2]⟩
  rcases xm.mp hc with rfl|hc
  ·exact⟨ht.1,hx0⟩
  ·exact h1 c hc
theorem zIu:∀{rs:List (Addr × Int × Int)},(∀c∈rs,Rep K J H (pTr c) (.ref c.1))->RepL K J H ((rs.map (·.2)).map ptD) (rv rs)
 | [],_=>rfl
 | c::rs,h=>⟨.ref c.1,rv rs,rfl,h c (.head _),zIu fun d hd=>h d (.tail _ hd)⟩
theorem zUo {cs:List (Int × Int)}{ds:List (Int × Int)}(sd:Sd ds) (nd:ds.Nodup) (m:∀x,x∈ds <-> x∈cs):ds=srtP cs:=by
 refine DS.zTw ((sd.and nd).imp fun {a b} ⟨h1,h2⟩=>?_) (DS.zK3 cs) fun x=>(m x).trans DS.mem_srtP.symm
 have ne:¬ (a.1=b.1/\a.2=b.2):=fun z=>h2 (Prod.ext z.1 z.2)
 unfold PL at h1
 unfold DS.clt
 lia
theorem zZu {e:Expr}{m:DS.EM}{p p2 pos pos2:Pos}(hc:X.calm=true) (hu:X.A.units+64<cLine) (he:DE X K E e m) (hgs:Gl X "sorted") (hms:X.mg "sorted"=none) (hgt:Gl X "set") (hmt:X.mg "set"=none) (h:nst e=true:=by rfl) (hK:X.K=K:=by rfl):
  DF X K E (.Call (.Name "sorted" p) [.Call (.Name "set" p2) [e] [] pos2] [] pos) (DS.eUn DS.ssC m):=by
 subst hK
 refine⟨⟨fun pins s σ H Q I hq1=>?_⟩⟩
 obtain⟨env,S,J,ha,hE,q⟩:=hq1
 have hs:starEach [e] X.env=[(false,eval e X.env)]:=zB9 h
 have hs2:starEach [Expr.Call (.Name "set" p2) [e] [] pos2] X.env=[(false,eval (.Call (.Name "set" p2) [e] [] pos2) X.env)]:=rfl
 refine ua (zDk I hgs hms PyProof.Rows.boot_sorted (PyProof.Rows.callWith_builtin1 ?_ hs2 rfl))
 rw[hs2]
 refine(show wpAny _ _ (spliced ((false,eval (.Call (.Name "set" p2) [e] [] pos2) X.env)::backTo pos [])) _ _ s from uI ?_)
 refine ua (zDk I hgt hmt PyProof.Rows.boot_set (v9 ?_ hs rfl))
 rw[hs]
 refine(show wpAny _ _ (spliced ((false,eval e X.env)::backTo pos2 [])) _ _ s from uI ?_)
 refine thn (he.h.h pins s σ H (fun x H1=>∃J1 S1 d0 d,AbS X.K J1 S1 H1/\Rep X.K J1 H1 d0 x/\DS.ssC S1 d0=some d/\∀p o,H1 p=none->ObD X.K J1 H1 d o->Q (.ref p) (upd H1 p o)) I ⟨env,S,J,ha,hE,q.bind.imp fun d0 S1 J1 H1 _ a1 g1 q1 x rx=>?_⟩) fun v s1 hq1=>?_
 ·obtain⟨c,ec,k⟩:=q1.lift
  exact⟨J1,S1,d0,c,a1,rx,ec,k J1 H1 a1 .refl⟩
 ·obtain⟨x,H1,I1,r1,J1,S1,d0,d,a1,rx,ed,k⟩:=hq1
  refine uH ?_
  unfold DS.ssC at ed
  split at ed
  ·rename_i l
   split at ed
   ·rename_i cs e1
    split at ed
    ·rename_i hz
     cases ed
     obtain⟨a,ys,rfl,ht,rl⟩:=rx
     rw[DS.zLe e1]at rl
     obtain⟨rs,rfl,hch,hrs⟩:=zJg rl
     cases r1
     obtain⟨its,rvx,pl,hz'⟩:=I1.tuple ht.sq
     obtain rfl:=zNo rvx
     have lrs:rs.length<=63:=by rw[<- hrs,xn]at hz;exact hz
     have kk:∀c∈rs,kOf rs c.1=[c.2.1,c.2.2]:=fun c hc=>zZb (fun c hc=>(hch c hc).1) hc
     refine zIt (κ:=kOf rs) (items:=(rs.map rf).toArray) (I.ok.hd hc) pl (by nofun) (by simp;lia) (fun v hv=>?_) fun h1 tk1 es i1 z1 m1 cv k1=>?_
     ·obtain⟨c,hm,rfl⟩:=xk.mp (show v∈rs.map rf from hv)
      exact⟨c.1,rfl,by rw[kk c hm];exact((hch c hm).1.co I1).tk⟩
     refine uH ?_
     have k1':∀b o,s1.heap.get? b=some o->h1.get? b=some o:=fun b o e=>k1 b o (xl e) e
     refine zG7 (s:={ s1 with heap:=h1,toks:=tk1 }) (m:=s1.heap.objs.size+1) (G:=fun cs'=>cs'.length=es.size/\(∀c∈cs',c∈rs)/\(cs'.map (·.2)).Nodup/\∀e∈es.toList,∃c∈cs',e.2=rf c) (TS.col_set (A:=X.A.in1) (s:={ s1 with heap:=h1,toks:=tk1 }) (I.ok.hd hc) i1 (fun c hm=>((hch c hm).1.co I1).kept fun o e=>k1' _ _ e) kk (fun e hm=>?_) (by simp at z1;lia)) fun cs1 cs' c tk h' D e1 l1 pm sd mD kp hD=>?_
     ·obtain⟨c,hm,e2⟩:=xk.mp (show e.2∈rs.map rf from m1 e hm)
      exact⟨c,hm,e2.symm⟩
     have ln:cs'.length<=rs.length:=by rw[pm.length_eq,e1.1];simpa using z1
     have len:(rv cs').length<=sizeLine:=by rw[xn,vW];lia
     have mD':s1.heap.objs.size<=D:=Nat.le_of_succ_le mD
     have sub:∀c∈cs',c∈rs:=fun c hc=>e1.2.1 c (pm.mem_iff.mp hc)
     have eq:cs'.map (·.2)=srtP cs:=by
      refine zUo sd ((pm.map _).nodup_iff.mpr e1.2.2.1) fun x=>?_
      rw[<- hrs]
      constructor
      ·intro hx
       obtain⟨c,hc,rfl⟩:=xk.mp hx
       exact xk.mpr ⟨c,sub c hc,rfl⟩
      ·intro hx
       obtain⟨c0,hc0,rfl⟩:=xk.mp hx
       obtain⟨e,hm,ek⟩:=cv (rf c0) (show rf c0∈rs.map rf from xk.mpr ⟨c0,hc0,rfl⟩)
       obtain⟨c2,hc2,e2⟩:=e1.2.2.2 e hm
       have ek2:kOf rs c2.1=kOf rs c0.1:=by
        unfold kv at ek
        rw[e2]at ek
        exact ek
       rw[kk c2 (e1.2.1 c2 hc2),kk c0 hc0]at ek2
       simp only[List.cons.injEq]at ek2
       exact xk.mpr ⟨c2,pm.mem_iff.mpr hc2,Prod.ext ek2.1 ek2.2.1⟩
     refine⟨.ref D,_,I1.laid (t':=tk) (fun b o e=>kp b o (k1' b o e)) mD' (show ObjOk X.prog X.w _ h' _ (.lst (rv cs'))from⟨len,_,c,zO6 cs',hD⟩),rfl,k D _ (I1.hok.fresh mD') ⟨rv cs',rfl,?_⟩⟩
     rw[<- eq]
     exact zIu fun c hc=>(hch c (sub c hc)).2
    ·cases ed
   ·cases ed
  ·cases ed
end
end L2
namespace L2
open PySem PySem.Spec PyProof.Rows
open DS (D Store Exn Rs SR)
section
variable {X:Cx}{K:PySem.W.Frag}{J:Js}{S:Store}{H:Hp}
theorem zMc {bt:Nat->Nat->Bool}{f:Nat->Int}(le:Int->Int->Prop) (rf:∀a,le a a) (tr:∀a b c,le a b->le b c->le a c) (h1:∀i j,bt i j=true->le (f i) (f j)) (h2:∀i j,bt i j=false->le (f j) (f i)):∀(k:Nat),argBest bt k<=k/\∀i,i<=k->le (f (argBest bt k)) (f i)
 | 0=>⟨xh _,fun i hi=>by rw[Nat.le_zero.mp hi];exact rf _⟩
 | k+1=>by
  obtain⟨a,b⟩:=zMc le rf tr h1 h2 k
  unfold argBest
  split
  ·rename_i c
   refine⟨xh _,fun i hi=>?_⟩
   rcases Nat.lt_or_eq_of_le hi with z|z
   ·exact tr _ _ _ (h1 _ _ c) (b i (Nat.le_of_lt_succ z))
   ·rw[z];exact rf _
  ·rename_i c
   refine⟨Nat.le_succ_of_le a,fun i hi=>?_⟩
   rcases Nat.lt_or_eq_of_le hi with z|z
   ·exact b i (Nat.le_of_lt_succ z)
   ·rw[z];exact h2 _ _ (Bool.eq_false_iff.mpr c)
theorem yA4 {p:Int->Int->Prop}{bt:Nat->Nat->Bool}(tr:∀a b c,¬ p b a->¬ p c b->¬ p c a) (as:∀a b,p a b->¬ p b a) (tot:∀a b,¬ p a b->¬ p b a->a=b) {a:Int}{r:List Int}(hb:∀i j,bt i j=true <-> p ((a::r).getD i 0) ((a::r).getD j 0)):(a::r).getD (argBest bt r.length) 0=DS.bst p a r:=by
 obtain⟨h1,h2⟩:=DS.zQj tr as r a
 obtain⟨k1,k2⟩:=zMc (bt:=bt) (f:=fun i=>(a::r).getD i 0) (fun x y=>¬ p y x) (fun x z=>as _ _ z z) (fun x y z h h'=>tr _ _ _ h h') (fun i j h=>as _ _ ((hb i j).mp h)) (fun i j h=>fun z=>by rw[(hb i j).mpr z]at h;cases h) r.length
 have kl:argBest bt r.length<(a::r).length:=Nat.lt_succ_of_le k1
 obtain⟨i,hi,e⟩:=vw.mp h1
 refine tot _ _ (fun z=>?_) fun z=>?_
 ·refine h2 _ ?_ z
  rw[vL,xp kl]
  exact v5 kl
 ·refine k2 i (Nat.le_of_lt_succ hi) ?_
  rw[vL,xp hi]
  show p (a::r)[i] _
  rw[e]
  exact z
theorem zMa {p:Int->Int->Prop}{op:CmpOp}{nm:String}(tr:∀a b c,¬ p b a->¬ p c b->¬ p c a) (as:∀a b,p a b->¬ p b a) (tot:∀a b,¬ p a b->¬ p b a->a=b) [DecidableRel p]
  (cmp:∀{x y:Int}{t u:Tok}{s:Shared}{A:Around}{Q:Value->Shared->Prop}{E:Value->Shared->Prop},Q (.bool (decide (p x y))) s->wpAny (model X.prog X.w) A (richCompare op (.int x t) (.int y u)) Q E s)
  (wk:∀{x:Value}{s:Shared}{Q:Value->Shared->Prop},wpAny (model X.prog X.w) X.A.in1 (pyIter x) (fun it s₂=>∃I fp wr n P St bt,it=.ref I/\Walks X.prog X.w X.A.in1 I fp wr n P St/\St 0 s₂.heap/\(∀b∈fp,b<s₂.heap.objs.size)/\0<n/\CmpOf X.prog X.w X.A.in1 op P bt /\
   ∀v h' tk,P (argBest bt (n-1)) v->(∀b o,b ∉ wr->s₂.heap.get? b=some o->h'.get? b=some o)->Q v { s₂ with heap:=h',toks:=tk }) X.xe s->wpAny (model X.prog X.w) X.A (call (.builtin nm) [x]) Q X.xe s)
  (hc:X.calm=true) (hK:X.K=K:=by rfl):zCb X (.builtin nm) (cOf K (DS.bstL p)):=by
 subst hK
 intro pins s σ H xs us Q I r ⟨J,S,ds,d,ha,rl,e,k⟩
 unfold DS.bstL at e
 split at e
 ·rename_i d0
  obtain⟨x,rfl,rx⟩:=zFk (ds:=[]) rl
  split at e
  ·rename_i a r' e1
   cases e
   split at e1
   ·rename_i l e2
    have el:=DS.zGi e1
    obtain⟨b,ys,rfl,hq,q⟩:=zLk ha rx e2
    obtain⟨u,rfl,ru⟩:=vals1 r
    cases ru
    obtain⟨its,rv,pl,_⟩:=I.list hq
    have at_:∀(i:Nat) (v:Value),its.toArray[i]?=some v->∃t,v=.int ((a::r').getD i 0) t:=fun i v hv=>by
     rw[el]at q
     have hl:=q.length
     rw[xn]at hl
     have hv':its[i]?=some v:=by simpa using hv
     have hi:i<(a::r').length:=by rw[hl,rv.length];exact(xx.mp hv').1
     obtain⟨y,hy,ry⟩:=q.get (i:=i) (d:=.int (a::r')[i]) (by rw[xK,xp hi];rfl)
     obtain rfl:=ry
     obtain⟨w,hw,t,ew⟩:=rv.get hy
     rw[hv']at hw
     cases hw
     exact⟨t,by rw[ew,vL,xp hi];rfl⟩
    have sz:its.toArray.size=r'.length+1:=by
     have h1:=q.length
     rw[el,xn]at h1
     rw[xv,<- rv.length,<- h1];rfl
    have hlt:b<s.heap.objs.size:=by obtain⟨o,ho,_⟩:=pl.isList;exact xl ho
    have hne:b≠s.heap.objs.size:=xq hlt
    have W:=Walks.list (prog:=X.prog) (w:=X.w) (A:=X.A.in1) (I.ok.hd hc) s.heap.objs.size b hne its.toArray
    refine wk (yf pl.isList ⟨_,_,_,_,_,_,fun i j=>decide (p ((a::r').getD i 0) ((a::r').getD j 0)),rfl,W,⟨⟨_,xu _ rfl,rfl,rfl⟩,pl.isList.push _⟩,fun c hm=>?_,by rw[sz];exact Nat.succ_pos _,fun i j vi vj s' Q' E' hi hj hQ=>?_,fun v h' tk hv kp=>?_⟩)
    ·rw[ve]
     rcases xm.mp hm with z|z
     ·rw[z];exact Nat.lt_succ_self _
     ·rw[xV.mp z];exact uw hlt
    ·obtain⟨t,rfl⟩:=at_ i vi hi
     obtain⟨t',rfl⟩:=at_ j vj hj
     exact cmp hQ
    ·obtain⟨t,rfl⟩:=at_ _ v hv
     rw[sz,Nat.add_sub_cancel,yA4 tr as tot fun i j=>uZ]
     exact⟨.int _,H,I.kept (t':=tk) fun c o e=>kp c o (fun z=>xq (xl e) (xV.mp z)) (xj _ e),⟨t,rfl⟩,k _ H ha .refl rfl⟩
   ·cases e1
  ·cases e
 ·cases e
theorem zDq (hc:X.calm=true) (hK:X.K=K:=by rfl):zCb X (.builtin "min") (cOf K DS.minI):=
 zMa (op:=.Lt) (fun a b c h h'=>by nofun) (fun a b h=>by nofun) (fun a b h h'=>by nofun) (fun h=>lt_int h) (fun h=>call_min_walk h) hc hK
theorem zGp (hc:X.calm=true) (hK:X.K=K:=by rfl):zCb X (.builtin "max") (cOf K DS.maxI):=
 zMa (op:=.Gt) (fun a b c h h'=>by nofun) (fun a b h=>by nofun) (fun a b h h'=>by nofun) (fun h=>gt_int h) (fun h=>call_max_walk h) hc hK
end
end L2
namespace L2
open PySem PySem.Spec PyProof.Rows
open DS (D Store Exn Rs SR)
section
variable {X:Cx}{K:PySem.W.Frag}{J:Js}{S:Store}{H:Hp}
theorem zWb {xs:List Int}{ys:List V}{its:List Value}(q:RepL K J H (xs.map D.int) ys) (rv:Vals ys its):its.length=xs.length/\∀(i:Nat) (v:Value),its[i]?=some v->∃x t,xs[i]?=some x/\v=.int x t:=by
 have hl:=q.length
 rw[xn]at hl
 refine⟨by rw[hl,rv.length],fun i v hv=>?_⟩
 have hi:i<xs.length:=by rw[hl,rv.length];exact(xx.mp hv).1
 obtain⟨y,hy,ry⟩:=q.get (i:=i) (d:=.int xs[i]) (by rw[xK,xp hi];rfl)
 obtain rfl:=ry
 obtain⟨w,hw,t,ew⟩:=rv.get hy
 rw[hv]at hw
 cases hw
 exact⟨xs[i],t,xp hi,ew⟩
theorem zKf {pins:List (Addr × Obj)}{σ:St}{s:Shared}{d:D}{x:V}{xs:List Int}(I:Inv X pins σ H s) (ha:AbS X.K J S H) (rx:Rep X.K J H d x) (e:DS.lstI S d=some xs):∃a its,x=.ref a/\s.heap.IsList a (List.toArray its)/\its.length=xs.length/\∀(i:Nat) (v:Value),its[i]?=some v->∃x t,xs[i]?=some x/\v=.int x t:=by
 unfold DS.lstI at e
 split at e
 ·rename_i l e2
  rw[DS.zGi e]at e2
  obtain⟨b,ys,rfl,hq,q⟩:=zLk ha rx e2
  obtain⟨its,rv,pl,_⟩:=I.list hq
  obtain⟨h1,h2⟩:=zWb q rv
  exact⟨b,its,rfl,pl.isList,h1,h2⟩
 ·cases e
open Classical in
theorem zYt (hK:X.K=K:=by rfl):OpR X (compareOp .In) (r2Of K DS.inI):=by
 subst hK
 intro pins s σ H x y v u Q I rx ry ⟨J,S,d1,d2,d,ha,r1,r2,e,k⟩
 unfold DS.inI at e
 split at e
 ·rename_i a xs e1
  cases e
  obtain⟨b,its,rfl,pl,hl,at_⟩:=zKf I ha r2 e1
  obtain rfl:=r1
  obtain⟨t,rfl⟩:=rx
  cases ry
  refine SeqAt.in_listAt (fun z=>match z with|.int n _=>n == a|_=>false) pl (fun z hz=>?_) ⟨.bl _,H,I,rfl,?_⟩
  ·obtain⟨i,ei⟩:=uL.mp (show z∈its by simpa using hz)
   obtain⟨n,t',_,rfl⟩:=at_ i z ei
   exact SeqAt.EqAt.int_int n t' a t
  ·rw[show(its.toArray.any fun z=>match z with|.int n _=>n == a|_=>false)=decide (a∈xs)from ?_]
   ·exact k _ H ha .refl rfl
   ·rw[uQ,uZ]
    simp only[List.any_toArray,List.any_eq_true]
    constructor
    ·rintro⟨z,hz,hg⟩
     obtain⟨i,ei⟩:=uL.mp hz
     obtain⟨n,t',en,rfl⟩:=at_ i z ei
     obtain rfl:n=a:=by simpa using hg
     exact xU en
    ·intro hm
     obtain⟨i,e⟩:=uL.mp hm
     have hi:i<its.length:=by rw[hl];exact(xx.mp e).1
     obtain⟨n,t',en,ez⟩:=at_ i its[i] (xp hi)
     rw[e]at en
     cases en
     exact⟨its[i],v5 hi,by rw[ez];simp⟩
 ·cases e
open Classical in
theorem zVn (hu:X.A.units+64<cLine) (hK:X.K=K:=by rfl):OpR X (compareOp .NotEq) (r2Of K DS.neLI):=by
 subst hK
 intro pins s σ H x y v u Q I rx ry ⟨J,S,d1,d2,d,ha,r1,r2,e,k⟩
 unfold DS.neLI at e
 split at e
 ·rename_i xs ys e1 e2
  split at e
  ·rename_i hxy
   cases e
   obtain⟨a,its,rfl,pa,la,fa⟩:=zKf I ha r1 e1
   obtain⟨b,jts,rfl,pb,lb,fb⟩:=zKf I ha r2 e2
   cases rx
   cases ry
   refine SeqAt.RcNeAt.lists (A:=X.A) (e:=fun j=>xs.getD j 0 == ys.getD j 0) pa pb (by simp;lia) (by nofun) (fun j h1 h2=>?_) _ _ _ _ ⟨.bl _,H,I,rfl,?_⟩
   ·obtain⟨n,t,en,ez⟩:=fa j _ (xp (by simpa using h1))
    obtain⟨n',t',en',ez'⟩:=fb j _ (xp (by simpa using h2))
    have q:=SeqAt.EqAt.int_int (A:=X.A.in1) (s:=s) n t n' t'
    rw[<- ez,<- ez']at q
    simpa[vL,en,en']using q
   ·rw[show((List.range (List.toArray its).size).all fun j=>xs.getD j 0 == ys.getD j 0)=decide (xs=ys)from ?_]
    ·exact k _ H ha .refl rfl
    ·rw[uQ,uZ,vv]
     constructor
     ·intro h
      refine List.ext_getElem hxy fun i h1 h2=>?_
      have:=h i (xC.mpr (by simp;lia))
      simpa[vL,h1,h2]using this
     ·rintro rfl j _
      simp
  ·cases e
 ·cases e
theorem zOy:OpR X (compareOp .NotEq) (r2Of K DS.neB):=by
 intro pins s σ H x y v u Q I rx ry ⟨J,S,d1,d2,d,ha,r1,r2,e,k⟩
 unfold DS.neB at e
 split at e
 ·cases e
  obtain rfl:=r1
  obtain rfl:=r2
  cases rx
  cases ry
  exact SeqAt.RcNeAt.bool_bool _ _ _ _ _ _ ⟨.bl _,H,I,by rw[Bool.beq_eq_decide_eq];exact rfl,k _ H ha .refl rfl⟩
 ·cases e
end
end L2
namespace L2
open PySem PySem.Spec PyProof.Rows
open DS (D Store Exn Rs SR)
section
variable {X:Cx}{K:PySem.W.Frag}{E:XE}{e:Expr}{m:DS.EM}{p2 pos:Pos}
theorem zWv {stp:Expr}{m2:DS.EM}(he:DE X K E e m) (h2:DE X K E stp m2) (e2:∀env S,m2 env S=.ok (.int (-1)) S:=by intros;rfl) (hK:X.K=K:=by rfl):DE X K E (.Subscript e (.Slice none none (some stp) p2) pos) (DS.eUn DS.revT m):=by
 subst hK
 refine⟨⟨fun pins s σ H Q I hq1=>?_⟩⟩
 obtain⟨env,S,J,ha,hE,q⟩:=hq1
 refine Subscript_ (thn (he.h.h pins s σ H (fun x H1=>∃J1 S1 d0 d,AbS X.K J1 S1 H1/\RepE X.K J1 H1 env σ/\Rep X.K J1 H1 d0 x/\DS.revT S1 d0=some d/\∀v H',AbS X.K J1 S1 H'->Grow J1 H1 J1 H'->Rep X.K J1 H' d v->Q v H') I ⟨env,S,J,ha,hE,q.bind.imp fun d0 S1 J1 H1 _ a1 g1 q1 x rx=>?_⟩) fun v s1 hq1=>?_)
 ·obtain⟨c,ec,k⟩:=q1.lift
  exact⟨J1,S1,d0,c,a1,hE.grow g1,rx,ec,fun v H' h1 h2 h3=>k J1 H' h1 h2 v h3⟩
 ·obtain⟨x,H1,I1,r1,J1,S1,d0,d,a1,hE1,rx,ed,k⟩:=hq1
  have n1:∀(s:Shared) (R:Value->Shared->Prop),R .none s->wpAny (model X.prog X.w) X.A (evalPart none X.env) R X.xe s:=fun s R h=>by rw[evalPart_none];exact xg h
  refine wpAny_Slice (n1 _ _ (n1 _ _ ?_))
  rw[evalPart_some]
  refine thn (h2.h.h pins s1 σ H1 (fun y H2=>y=.int (-1)/\H2=H2/\∃g:Grow J1 H1 J1 H2,AbS X.K J1 S1 H2) I1 ⟨env,S1,J1,a1,hE1,?_⟩) fun u s2 hq1=>?_
  ·rw[e2]
   exact fun J' H' h1 g v rv=>⟨rv,rfl,by
    have ej:J'=J1:=by
     have:=g.take a1
     rw[<- h1.len]at this
     simpa using this
    subst ej
    exact⟨g,h1⟩⟩
  obtain⟨y,H2,I2,r2,ey,_,g2,a2⟩:=hq1
  subst ey
  obtain⟨t,rfl⟩:=r2
  have I4:Inv X pins σ H2 { s2 with heap:=s2.heap.push { cls:=.type "slice",data:=.fields #[.none,.none,.int (-1) t] } }:=I2.kept (t':=s2.toks) fun b ob q=>xj _ q
  have hs:(s2.heap.push { cls:=.type "slice",data:=.fields #[.none,.none,.int (-1) t] }).IsSliceOf s2.heap.objs.size .none .none (.int (-1) t):=Heap.IsSliceOf.new ..
  have rx2:=Rep.grow g2 _ _ rx
  have k2:∀v H',AbS X.K J1 S1 H'->Grow J1 H2 J1 H'->Rep X.K J1 H' d v->Q v H':=fun v H' h1 h2 h3=>k v H' h1 (g2.trans h2) h3
  refine(show wpAny (model X.prog X.w) X.A (subscriptTail e (.Slice none none (some stp) p2) v (.ref s2.heap.objs.size)) (EP X pins σ Q) X.xe { s2 with heap:=s2.heap.push { cls:=.type "slice",data:=.fields #[.none,.none,.int (-1) t] } }from ?_)
  unfold DS.revT at ed
  split at ed
  ·rename_i l
   cases ed
   obtain⟨a,xs,rfl,ta,rl⟩:=rx2
   cases r1
   obtain⟨its,r,ht,hz⟩:=I4.tuple ta.sq
   refine tail_any (ops:=[.ref a,.ref s2.heap.objs.size]) (T:="tuple") ht.typeIs vZ.lookup (zFb ht hs ?_ (by rw[<- Vals.length r];exact hz)) (by with_unfolding_all rfl)
   refine⟨.ref _,_,I4.laid (t':=s2.toks) (o:=.tup xs.reverse) (fun b ob q=>xj _ q) (xh _) ⟨by rw[uz];exact hz,_,r.reverse,IsTup.new _ _⟩,rfl,k2 _ _ (a2.push (I4.hok.fresh (xh _))) (.push (I4.hok.fresh (xh _))) ⟨_,_,rfl,⟨zAu,a2.out (I4.hok.fresh (xh _))⟩,(RepL.grow (.push (I4.hok.fresh (xh _))) _ _ rl).reverse⟩⟩
  ·cases ed
end
end L2
namespace L2
open PySem PySem.Spec PyProof.Rows
open DS (D Store Exn Rs SR)
section
variable {X:Cx}{K:PySem.W.Frag}
theorem zEa (K:PySem.W.Frag):PySem.W.kitOne K (.type "tuple") (.type "tuple")=some true:=by first|rfl|(unfold PySem.W.kitOne;rfl)|(unfold PySem.W.kitOne;simp;rfl)
theorem zN0 (K:PySem.W.Frag):PySem.W.kitOne K (.type "int") (.type "int")=some true:=by first|rfl|(unfold PySem.W.kitOne;rfl)|(unfold PySem.W.kitOne;simp;rfl)
theorem zKj (K:PySem.W.Frag):PySem.W.kitOne K (.type "int") (.type "bool")=some false:=by first|rfl|(unfold PySem.W.kitOne;rfl)|(unfold PySem.W.kitOne;simp;rfl)
theorem zJ6 (K:PySem.W.Frag):PySem.W.kitOne K (.type "bool") (.type "bool")=some true:=by first|rfl|(unfold PySem.W.kitOne;rfl)|(unfold PySem.W.kitOne;simp;rfl)
theorem zDr (hK:X.K=K:=by rfl):zCb X (.builtin "isinstance") (cOf K DS.isiQ):=by
 subst hK
 intro pins s σ H xs us Q I r ⟨J,S,ds,d,ha,rl,e,k⟩
 have fin:∀{b:Bool},(∀v H',AbS X.K J S H'->Grow J H J H'->Rep X.K J H' (.bl b) v->Q v H')->∀tk,EP X pins σ Q (.bool b) { s with toks:=tk }:=fun k tk=>⟨.bl _,H,I.tok _,rfl,k _ H ha .refl rfl⟩
 unfold DS.isiQ at e
 split at e
 ·rename_i d T
  obtain⟨b,eb,rfl⟩:=Option.map_eq_some_iff.mp e
  obtain⟨x,y,rfl,rx,ry⟩:=zHu rl
  obtain⟨u,w,rfl,ru,rw⟩:=vals2 r
  obtain rfl:=ry
  cases rw
  have one:∀{c:Prop}[Decidable c] {v:Bool},(if c then some v else none)=some b->c/\v=b:=fun {c} _ {v} h=>by
   by_cases q:c
   ·rw[xc q]at h;cases h;exact⟨q,rfl⟩
   ·rw[xf q]at h;cases h
  cases d with
  | tup l=>
   obtain⟨rfl,rfl⟩:=one eb
   obtain⟨a,ys,rfl,t,_⟩:=rx
   cases ru
   obtain⟨_,_,_,p⟩:=(show ObjOk X.prog X.w H s.heap a (.tup ys)from I.hok a _ t.1)
   obtain⟨o,h1,h2,_⟩:=p
   exact yk PySem.W.kitx_tuple I.kIn ⟨o,h1,h2⟩ (zEa X.K) (fun z=>nomatch z) (fin k)
  | ktup l=>
   obtain⟨rfl,rfl⟩:=one eb
   obtain⟨a,ys,rfl,⟨o,its,n,lk,hc,_⟩,_⟩:=rx
   cases ru
   exact yk PySem.W.kitx_tuple I.kIn ⟨o,I.kIn _ _ lk,hc⟩ (zEa X.K) (fun z=>nomatch z) (fin k)
  | int n=>
   obtain rfl:=rx
   obtain⟨t,rfl⟩:=ru
   unfold DS.isq at eb
   dsimp only at eb
   by_cases q:T="int"
   ·rw[xc q]at eb
    cases eb
    subst q
    exact yk PySem.W.kitx_int I.kIn True.intro (zN0 X.K) (fun z=>nomatch z) (fin k)
   ·rw[xf q]at eb
    obtain⟨rfl,rfl⟩:=one eb
    exact yk PySem.W.kitx_int I.kIn True.intro (zKj X.K) (fun z=>nomatch z) (fin k)
  | bl n=>
   obtain⟨rfl,rfl⟩:=one eb
   obtain rfl:=rx
   cases ru
   exact yk PySem.W.kitx_bool I.kIn True.intro (zJ6 X.K) (fun z=>nomatch z) (fin k)
  | _=>cases eb
 ·cases e
end
end L2
namespace DS
open PySem (Str)
noncomputable section
open Classical
theorem zHe {n:Nat}:∀(S:Store),keeps n S S
 | []=>trivial
 | _::r=>⟨.inl rfl,zHe r⟩
theorem zLs {n:Nat}:∀{S S':Store},S.length=S'.length->(∀(i:Nat) (d:D),S'[i]?=some d->S[i]?=some d\/d.low n=true)->keeps n S S'
 | [],_,_,_=>trivial
 | a::r,[],e,_=>by simp at e
 | a::r,b::t,e,h=>⟨by
   rcases h 0 b rfl with q|q
   ·exact .inl (by simpa using q)
   ·exact .inr q,zLs (by simpa using e) fun i d q=>by simpa using h (i+1) d (by simpa using q)⟩
theorem zSj {S:Store}{d:D}(h:d.low S.length=true):fin S d S=.ok d S:=by
 unfold fin
 rw[xc (zHe S),xc h,List.take_length]
theorem zZr {S S':Store}{d:D}(e:S.length=S'.length) (k:∀(i:Nat) (d:D),S'[i]?=some d->S[i]?=some d\/d.low S.length=true) (h:d.low S.length=true):fin S d S'=.ok d S':=by
 unfold fin
 rw[xc (zLs e k),xc h,e,List.take_length]
theorem atN {l:List D}{i:Int}{k:Nat}{d:D}(h:i=(k:Int)) (e:l[k]?=some d):atL l i=some d:=by
 obtain⟨hk,_⟩:=xx.mp e
 unfold atL ixN
 rw[xc (by nofun),xc (by nofun)]
 show l[i.toNat]?=some d
 rw[show i.toNat=k by nofun];exact e
theorem atM {l:List D}{i:Int}{k:Nat}{d:D}(h:i=(k:Int)-l.length) (e:l[k]?=some d):atL l i=some d:=by
 obtain⟨hk,_⟩:=xx.mp e
 unfold atL ixN
 rw[xf (by nofun),xc (by nofun)]
 show l[(i+l.length).toNat]?=some d
 rw[show(i+l.length).toNat=k by nofun];exact e
theorem atL0 {d:D}{l:List D}:atL (d::l) 0=some d:=atN (k:=0) rfl rfl
theorem atL1 {d e:D}{l:List D}:atL (d::e::l) 1=some e:=atN (k:=1) rfl rfl
theorem atL2 {d e f:D}{l:List D}:atL (d::e::f::l) 2=some f:=atN (k:=2) rfl rfl
theorem atL3 {d e f g:D}{l:List D}:atL (d::e::f::g::l) 3=some g:=atN (k:=3) rfl rfl
theorem ixT {S:Store}{l:List D}{i:Int}:ixD S (.tup l) (.int i)=atL l i:=rfl
theorem ixL {S:Store}{l:List D}{i:Int}:ixD S (.lst l) (.int i)=atL l i:=rfl
theorem zPo {S:Store}{l:List D}:items S (.tup l)=some l:=rfl
theorem zPp {S:Store}{l:List D}:items S (.lst l)=some l:=rfl
theorem zS2 {S:Store}{l:List D}:look S (.tup l)=some (.tup l):=rfl
theorem zS3 {S:Store}{l:List D}:look S (.lst l)=some (.lst l):=rfl
theorem zS4 {S:Store}{i:Int}:look S (.int i)=some (.int i):=rfl
theorem zVz {S:Store}{b:Bool}:look S (.bl b)=some (.bl b):=rfl
theorem zGc {S:Store}{a b:Int}(h:sm a/\sm b):mulD S (.int a) (.int b)=some (.int (a*b)):=xc h
end
end DS
local macro_rules | `(tactic| simp_arith [$ls,*]) => `(tactic| simp only [DS.sSeq, DS.sSet, DS.sRet, DS.yAb, DS.zBa, DS.sIf, DS.sUnp, DS.zDh, DS.sPar, DS.zO3, DS.eVar, DS.eC, DS.eOp, DS.eUn, DS.aNil, DS.zA0, DS.eTup, DS.eLst, DS.eCB, DS.zAc, DS.eSl, DS.pNo, DS.pYes, DS.asI, DS.asB, DS.tB, DS.tAnd, DS.tOr, DS.tNot, DS.tYes, DS.eAnd, DS.eOr, DS.eNot, DS.eIf, DS.Rs.bind_ok, DS.Rs.then_ok, DS.zA7, DS.zCe, DS.gName, DS.gTup, DS.gAll, DS.zPo, DS.zPp, DS.zS2, DS.zS3, DS.zS4, DS.zVz, vz, Option.map_none, xB, xN, v8, vQ, xY, vI, xt, vE, List.replicate, List.cons_append, ud, vO, Nat.reduceAdd, Nat.reduceSub, Nat.reduceLT, Nat.reduceEqDiff, xi, xO, DS.addD, DS.subD, DS.ixT, DS.ixL, DS.atL0, DS.atL1, DS.atL2, DS.atL3, Bool.not_true, Bool.not_false, x9, reduceIte, $ls,*])
namespace DS
open PySem (Str)
noncomputable section
open Classical
noncomputable abbrev zF8:D:=.str (Str.ofString "seed")
noncomputable abbrev kNum:D:=.str (Str.ofString "number")
noncomputable abbrev zGg:D:=.str (Str.ofString "left")
theorem zNv {a b:String}(h:(Str.ofString a).cps≠(Str.ofString b).cps):D.str (Str.ofString a)≠D.str (Str.ofString b):=fun e=>h (by injection e with e;rw[e])
theorem ne1:zF8≠kNum:=zNv (by decide +kernel)
theorem ne2:zF8≠zGg:=zNv (by decide +kernel)
theorem ne3:kNum≠zGg:=zNv (by decide +kernel)
noncomputable def zFe (seed num:Int) (m:Nat):D:=.dct false [zF8,kNum,zGg] [.int seed,.int num,.ref m]
structure DealAt (S:Store) (n m:Nat) (seed num:Int) (left:List Int):Prop where
 d:S[n]?=some (zFe seed num m)
 l:S[m]?=some (.lst (left.map D.int))
 ne:n≠m
 lo:0<=seed
 hi:seed<2147483647
section
variable {S:Store}{n m:Nat}{seed num:Int}{left:List Int}
theorem zKk (h:DealAt S n m seed num left):ixD S (.ref n) zF8=some (.int seed):=by
 unfold ixD look
 simp only[h.d]
 simp only[zFe]
 rw[xc (show zFm false zF8=true from rfl),look2,xc rfl]
theorem zPl (h:DealAt S n m seed num left):ixD S (.ref n) kNum=some (.int num):=by
 unfold ixD look
 simp only[h.d]
 simp only[zFe]
 rw[xc (show zFm false kNum=true from rfl),look2,xf ne1,look2,xc rfl]
theorem zPm (h:DealAt S n m seed num left):ixD S (.ref n) zGg=some (.ref m):=by
 unfold ixD look
 simp only[h.d]
 simp only[zFe]
 rw[xc (show zFm false zGg=true from rfl),look2,xf ne2,look2,xf ne3,look2,xc rfl]
theorem zOc (h:DealAt S n m seed num left) (x:Int):putN S (.ref n) kNum (.int x)=some (S.set n (zFe seed x m)):=by
 unfold putN
 simp only[h.d]
 simp only[zFe]
 rw[xc ⟨rfl,by decide⟩]
 unfold put2
 rw[xc (by simp)]
 dsimp only
 rw[repl2,xf ne1,repl2,xc rfl,repl2,xf (xo ne3),repl2]
 all_goals simp
theorem zR3 (h:DealAt S n m seed num left) (x:Int):putN S (.ref n) zF8 (.int x)=some (S.set n (zFe x num m)):=by
 unfold putN
 simp only[h.d]
 simp only[zFe]
 rw[xc ⟨rfl,by decide⟩]
 unfold put2
 rw[xc (by simp)]
 dsimp only
 rw[repl2,xc rfl,repl2,xf (xo ne1),repl2,xf (xo ne2),repl2]
 all_goals simp
theorem DealAt.lt (h:DealAt S n m seed num left):n<S.length:=(xx.mp h.d).1
theorem DealAt.ltm (h:DealAt S n m seed num left):m<S.length:=(xx.mp h.l).1
theorem DealAt.set_num (h:DealAt S n m seed num left) (x:Int):DealAt (S.set n (zFe seed x m)) n m seed x left:=⟨by rw[vo h.lt],by rw[xI h.ne];exact h.l,h.ne,h.lo,h.hi⟩
theorem DealAt.set_seed (h:DealAt S n m seed num left) (x:Int) (h1:0<=x) (h2:x<2147483647):DealAt (S.set n (zFe x num m)) n m x num left:=⟨by rw[vo h.lt],by rw[xI h.ne];exact h.l,h.ne,h1,h2⟩
theorem DealAt.set_left (h:DealAt S n m seed num left) (l:List Int):DealAt (S.set m (.lst (l.map D.int))) n m seed num l:=⟨by rw[xI (xo h.ne)];exact h.d,by rw[vo h.ltm],h.ne,h.lo,h.hi⟩
structure Only (n m:Nat) (S S':Store):Prop where
 len:S'.length=S.length
 at_:∀k,k≠n->k≠m->S'[k]?=S[k]?
theorem Only.refl:Only n m S S:=⟨rfl,fun _ _ _=>rfl⟩
theorem Only.trans {S' S'':Store}(a:Only n m S S') (b:Only n m S' S''):Only n m S S'':=⟨b.len.trans a.len,fun k h1 h2=>(b.at_ k h1 h2).trans (a.at_ k h1 h2)⟩
theorem Only.set1 (d:D):Only n m S (S.set n d):=⟨by simp,fun k h1 _=>xI (xo h1)⟩
theorem Only.set2 (d:D):Only n m S (S.set m d):=⟨by simp,fun k _ h1=>xI (xo h1)⟩
noncomputable abbrev zNf:TM:=(tAnd (tB (eOp eqI (eOp ixD (eVar 0) (eC kNum)) (eC (.int 0)))) (tB (eOp gtD (eCB lenB (zA0 (eOp ixD (eVar 0) (eC zGg)) aNil)) (eC (.int 0)))))
noncomputable abbrev zNn:SM:=(sPut putN (eVar 0) (eC kNum) (eMt "list" popM (eOp ixD (eVar 0) (eC zGg)) aNil))
theorem zJc {S:Store}{num:Int}{left:List Int}(env:Env) (he:env[0]?=some (some (.ref n))) (h:DealAt S n m seed num left):zNf env S=.ok false S\/∃ls x,left=ls++[x]/\zNf env S=.ok true S/\zNn env S=.nx env ((S.set m (.lst (ls.map D.int))).set n (zFe seed x m)):=by
 have e0:eVar 0 env S=.ok (.ref n) S:=by unfold eVar;rw[he]
 have el:look S (.ref m)=some (.lst (left.map D.int)):=h.l
 have c1:tB (eOp eqI (eOp ixD (eVar 0) (eC kNum)) (eC (.int 0))) env S=.ok (decide (num=0)) S:=by simp only[tB,eOp,eC,e0,Rs.bind_ok,zPl h,zA7,zDm,asB]
 have c2:tB (eOp gtD (eCB lenB (zA0 (eOp ixD (eVar 0) (eC zGg)) aNil)) (eC (.int 0))) env S=.ok (decide ((0:Int)<(left.map D.int).length)) S:=by simp only[tB,eOp,eC,eCB,zA0,aNil,e0,Rs.bind_ok,zPm h,zA7,lenB,el,gtD,asB]
 unfold zNf tAnd
 rw[c1,Rs.bind_ok]
 by_cases h0:num=0
 ·rw[xw h0,xc rfl,c2]
  by_cases hl:left=[]
  ·subst hl
   exact .inl rfl
  ·obtain⟨ls,x,rfl⟩:∃ls x,left=ls++[x]:=⟨left.dropLast,left.getLast hl,(List.dropLast_concat_getLast hl).symm⟩
   refine .inr ⟨ls,x,rfl,by rw[xw (by simp)],?_⟩
   have ty:tyD S (.ref m)=some "list":=by unfold tyD;rw[el]
   have pm:popM S (.ref m) []=some (.int x,S.set m (.lst (ls.map D.int))):=by
    unfold popM
    simp only[h.l]
    simp
   have e1:eVar 0 env (S.set m (.lst (ls.map D.int)))=.ok (.ref n) (S.set m (.lst (ls.map D.int))):=by unfold eVar;rw[he]
   simp only[zNn,sPut,eMt,eOp,aNil,eC,e0,Rs.bind_ok,Rs.then_ok,zA7,zPm h,ty,xi,pm,zCe,e1,zOc (h.set_left ls)]
 ·rw[xA h0,xf (by decide)]
  exact .inl rfl
theorem zMi (env:Env) (he:env[0]?=some (some (.ref n))):∀(k:Nat) {S:Store}{num:Int}{left:List Int},left.length=k->DealAt S n m seed num left->∃S' num' left',zAr zNf zNn (k+1) env S=.nx env S'/\DealAt S' n m seed num' left'/\Only n m S S':=by
 intro k
 induction k with
 | zero=>
  intro S num left hk h
  rcases zJc env he h with c|⟨ls,x,rfl,_⟩
  ·exact⟨S,num,left,by rw[zAr,c,Rs.then_ok,xf (by decide)],h,.refl⟩
  ·simp at hk
 | succ k ih=>
  intro S num left hk h
  rcases zJc env he h with c|⟨ls,x,rfl,c,b⟩
  ·exact⟨S,num,left,by rw[zAr,c,Rs.then_ok,xf (by decide)],h,.refl⟩
  ·obtain⟨S',num',left',e,hd,o⟩:=ih (by simpa using hk) ((h.set_left ls).set_num x)
   refine⟨S',num',left',?_,hd,(Only.set2 _).trans ((Only.set1 _).trans o)⟩
   rw[zAr,c,Rs.then_ok,xc rfl,b]
   exact e
noncomputable def zX2:SM:=
  (sSeq (zBo zNf zNn)
  (sSeq (sSet 2 (eOp ixD (eVar 0) (eC kNum)))
  (sSeq (sIf (tB (eOp gtD (eVar 2) (eC (.int 0)))) (sSeq (sPut putN (eVar 0) (eC kNum) (eOp zGj (eVar 2) (eVar 1)))
  (sRet (eOp modD (eVar 2) (eVar 1)))) zBa)
  (sSeq (sSet 3 (eOp modD (eOp addD (eOp mulD (eOp ixD (eVar 0) (eC zF8)) (eC (.int 48271))) (eC (.int 7919))) (eC (.int 2147483647))))
  (sSeq (sPut putN (eVar 0) (eC zF8) (eOp modD (eOp addD (eOp mulD (eVar 3) (eC (.int 40692))) (eC (.int 104729))) (eC (.int 2147483399))))
  (sSeq (sSet 4 (eOp modD (eOp mulD (eOp ixD (eVar 0) (eC zF8)) (eOp ixD (eVar 0) (eC zF8))) (eC (.int 2147483563))))
  (sRet (eOp modD (eOp addD (eOp mulD (eOp modD (eOp mulD (eVar 3) (eVar 3)) (eC (.int 2147483629))) (eC (.int 2147483563))) (eVar 4)) (eVar 1)))))))))
theorem zFt {x:Int}(h1:0<=x) (h2:x<2147483648):sm x:=zNz (by nofun) (by nofun)
theorem zLm {k:Nat}(h:m<k):(zFe seed num m).low k=true:=by
 show(lowL k [zF8,kNum,zGg] && lowL k [.int seed,.int num,.ref m])=true
 simp[lowL,D.low,h]
theorem low_ints {k:Nat}:∀(l:List Int),lowL k (l.map D.int)=true
 | []=>rfl
 | x::l=>by show(true && lowL k (l.map D.int))=true;rw[low_ints l];rfl
theorem zM2 {S':Store}{seed' num':Int}{left':List Int}{d:D}(h:DealAt S n m seed num left) (h':DealAt S' n m seed' num' left') (o:Only n m S S') (hd:d.low S.length=true):fin S d S'=.ok d S':=by
 refine zZr o.len.symm (fun i e he=>?_) hd
 by_cases h1:i=n
 ·subst h1;rw[h'.d]at he;cases he;exact .inr (zLm h.ltm)
 ·by_cases h2:i=m
  ·subst h2;rw[h'.l]at he;cases he;exact .inr (low_ints left')
  ·rw[o.at_ i h1 h2]at he;exact .inl he
noncomputable def Deal (S:Store) (n m:Nat):Prop:=∃seed num left,DealAt S n m seed num left
theorem zIe {a b:Int}(hb:0<b) (hs:sm b):zGj S (.int a) (.int b)=some (.int (a.fdiv b)):=xc ⟨by nofun,hs⟩
theorem zBy {a b:Int}(hb:0<b):modD S (.int a) (.int b)=some (.int (a % b)):=xc hb
theorem zKq {many:Int}(hm:0<many) (hs:sm many) (h:Deal S n m):∃(r:Int) (S':Store),zB0 2 5 zX2 [.ref n,.int many] S=.ok (.int r) S'/\0<=r/\r<many/\Deal S' n m/\Only n m S S':=by
 obtain⟨seed,num,left,h⟩:=h
 obtain⟨S1,num1,left1,ew,h1,o1⟩:=zMi (env:=[some (.ref n),some (.int many),none,none,none]) rfl left.length rfl h
 have ew':zBo zNf zNn [some (.ref n),some (.int many),none,none,none] S=.nx [some (.ref n),some (.int many),none,none,none] S1:=by
  rw[zDg (n:=left.length+1) (by rw[ew];exact fun z=>nomatch z),ew]
 unfold zB0 zX2
 simp only[xY,vI,Nat.reduceAdd,xi,xt,vE,Nat.reduceSub,List.replicate,List.cons_append,ud]
 rw[sSeq,ew']
 dsimp only
 have g:gtD S1 (.int num1) (.int 0)=some (.bl (decide (0<num1))):=rfl
 by_cases hp:0<num1
 ·have p1:=zOc h1 (num1.fdiv many)
  have h2:=h1.set_num (num1.fdiv many)
  try simp_arith [xi]
  simp only[zPl h1]
  try simp_arith [xi]
  simp only[g,xw hp]
  try simp_arith [xi]
  simp only[sPut]
  try simp_arith [xi]
  simp only[zIe hm hs]
  try simp_arith [xi]
  simp only[p1]
  try simp_arith [xi]
  simp only[zBy hm]
  try simp_arith [xi]
  exact⟨num1 % many,_,zM2 h h2 (o1.trans (.set1 _)) rfl,vy _ (by nofun),vx _ hm,⟨_,_,_,h2⟩,o1.trans (.set1 _)⟩
 ·simp_arith [xi]
  simp only[zPl h1]
  try simp_arith [xi]
  simp only[g,xA hp]
  try simp_arith [xi]
  simp only[zKk h1]
  try simp_arith [xi]
  have s1:sm seed/\sm 48271:=⟨zFt h1.lo (by have:=h1.hi;lia),zFt (by decide) (by decide)⟩
  simp only[zGc s1]
  try simp_arith [xi]
  simp only[zBy (show(0:Int)<2147483647 by decide)]
  try simp_arith [xi]
  generalize ho:(seed*48271+7919) % 2147483647=one
  have o0:0<=one:=by rw[<- ho];exact vy _ (by decide)
  have o9:one<2147483647:=by rw[<- ho];exact vx _ (by decide)
  simp only[sPut]
  try simp_arith [xi]
  simp only[zGc (show sm one/\sm 40692 from⟨zFt o0 (by nofun),zFt (by decide) (by decide)⟩)]
  try simp_arith [xi]
  simp only[zBy (show(0:Int)<2147483399 by decide)]
  try simp_arith [xi]
  generalize hq:(one*40692+104729) % 2147483399=sd
  have s0:0<=sd:=by rw[<- hq];exact vy _ (by decide)
  have s9:sd<2147483399:=by rw[<- hq];exact vx _ (by decide)
  have p1:=zR3 h1 sd
  have h2:=h1.set_seed sd s0 (by nofun)
  simp only[p1]
  try simp_arith [xi]
  simp only[zKk h2]
  try simp_arith [xi]
  simp only[zKk h2]
  try simp_arith [xi]
  simp only[zGc (show sm sd/\sm sd from⟨zFt s0 (by nofun),zFt s0 (by nofun)⟩)]
  try simp_arith [xi]
  simp only[zBy (show(0:Int)<2147483563 by decide)]
  try simp_arith [xi]
  simp only[zGc (show sm one/\sm one from⟨zFt o0 (by nofun),zFt o0 (by nofun)⟩)]
  try simp_arith [xi]
  simp only[zBy (show(0:Int)<2147483629 by decide)]
  try simp_arith [xi]
  generalize hw:one*one % 2147483629=w
  have w0:0<=w:=by rw[<- hw];exact vy _ (by decide)
  have w9:w<2147483629:=by rw[<- hw];exact vx _ (by decide)
  simp only[zGc (show sm w/\sm 2147483563 from⟨zFt w0 (by nofun),zFt (by decide) (by decide)⟩)]
  try simp_arith [xi]
  simp only[zBy hm]
  try simp_arith [xi]
  exact⟨_,_,zM2 h h2 (o1.trans (.set1 _)) rfl,vy _ (by nofun),vx _ hm,⟨_,_,_,h2⟩,o1.trans (.set1 _)⟩
end
end
end DS
namespace DS
open PySem (Str)
noncomputable section
open Classical
structure AtJ (env:Env) (j:Nat) (d:D) (env':Env):Prop where
 len:env'.length=env.length
 at_:env'[j]?=some (some d)
 o:∀i:Nat,i≠j->env'[i]?=env[i]?
theorem AtJ.set {env:Env}{j:Nat}(h:j<env.length) (d:D):AtJ env j d (env.set j (some d)):=⟨by simp,by rw[vo h],fun i hi=>xI (xo hi)⟩
theorem AtJ.more {env env1 env2:Env}{j:Nat}{d e:D}(a:AtJ env j d env1) (b:AtJ env1 j e env2):AtJ env j e env2:=⟨b.len.trans a.len,b.at_,fun i hi=>(b.o i hi).trans (a.o i hi)⟩
theorem zGo {gd:List (Nat × D)}{j:Nat}{c:TM}{e:EM}{f:D->D}{p:D->Bool}{S:Store}(hg:gOk S gd):∀(l:List D) (k:Nat) (env:Env),j<env.length->k+l.length<=most->(∀d∈l,∀env',AtJ env j d env'->c env' S=.ok (p d) S)->(∀d∈l,p d=true->∀env',AtJ env j d env'->e env' S=.ok (f d) S)->
  zDc gd (gName j) c e k l env S=.ok ((l.filter p).map f) S
 | [],k,env,_,_,_,_=>by rw[zDc,xc hg];rfl
 | d::l,k,env,hj,hk,hc,he=>by
  have hk':k+(l.length+1)<=most:=hk
  rw[zDc,xc ⟨hg,by nofun⟩]
  have a:=AtJ.set hj d
  show(c (env.set j (some d)) S).bind _=_
  rw[hc d (.head _) _ a,Rs.bind_ok]
  have up:∀x env',AtJ (env.set j (some d)) j x env'->AtJ env j x env':=fun x env' q=>a.more q
  have r:=fun k' (h:k'+l.length<=most)=>zGo (f:=f) hg l k' (env.set j (some d)) (by simpa using hj) h (fun x hx env' q=>hc x (.tail _ hx) env' (up x env' q)) fun x hx hp env' q=>he x (.tail _ hx) hp env' (up x env' q)
  by_cases hp:p d=true
  ·rw[xc hp,he d (.head _) hp _ a,Rs.bind_ok,r (k+1) (by nofun),Rs.bind_ok,List.filter_cons_of_pos hp];rfl
  ·rw[xf hp,r k (by nofun),List.filter_cons_of_neg hp]
theorem comp_map {gd:List (Nat × D)}{j:Nat}{e:EM}{f:D->D}{S:Store}(hg:gOk S gd) {l:List D}{env:Env}(hj:j<env.length) (hk:l.length<=most) (he:∀d∈l,∀env',AtJ env j d env'->e env' S=.ok (f d) S):zDc gd (gName j) tYes e 0 l env S=.ok (l.map f) S:=by
 have:=zGo (c:=tYes) (p:=fun _=>true) (f:=f) (e:=e) hg l 0 env hj (by nofun) (fun _ _ _ _=>rfl) fun d hd _=>he d hd
 rwa[List.filter_eq_self.mpr fun _ _=>rfl]at this
theorem zAq {S:Store}:gOk S []:=fun _ h=>nomatch h
theorem zPz {gd:List (Nat × D)}{i j:Nat}{b:SM}{S:Store}{f:D->D->D}(hij:i≠j) (hg:gOk S gd) {I:D->Prop}:∀(l:List D) (env:Env) (a:D),env[i]?=some (some a)->j<env.length->I a->(∀d∈l,∀env' a,env'.length=env.length->env'[i]?=some (some a)->env'[j]?=some (some d)->I a->(∀k,k≠i->k≠j->env'[k]?=env[k]?)->b env' S=.nx (env'.set i (some (f a d))) S/\I (f a d))->
  ∃env',forL gd (gName j) b l env S=.nx env' S/\env'.length=env.length/\env'[i]?=some (some (l.foldl f a))/\I (l.foldl f a)/\∀k,k≠i->k≠j->env'[k]?=env[k]?
 | [],env,a,ha,hj,hi,_=>⟨env,by rw[forL,xc hg],rfl,ha,hi,fun _ _ _=>rfl⟩
 | d::l,env,a,ha,hj,hi,hb=>by
  have il:i<env.length:=(xx.mp ha).1
  obtain⟨e1,i1⟩:=hb d (.head _) (env.set j (some d)) a (by simp) (by rw[xI (xo hij)];exact ha) (by rw[vo hj]) hi fun k _ hk=>xI (xo hk)
  obtain⟨env',e2,l2,a2,i2,o2⟩:=zPz hij hg l ((env.set j (some d)).set i (some (f a d))) (f a d) (by rw[vo (by simpa using il)]) (by simpa using hj) i1 fun x hx env' a' hl h1 h2 h3 h4=>hb x (.tail _ hx) env' a' (by simpa using hl) h1 h2 h3 fun k k1 k2=>by
   rw[h4 k k1 k2,xI (xo k1),xI (xo k2)]
  refine⟨env',?_,by simpa using l2,a2,i2,fun k k1 k2=>by rw[o2 k k1 k2,xI (xo k1),xI (xo k2)]⟩
  rw[forL,xc hg]
  show(match b (env.set j (some d)) S with|.nx e S1=>forL gd (gName j) b l e S1|.ct e S1=>forL gd (gName j) b l e S1|.bk e S1=>.nx e S1|q=>q)=_
  rw[e1]
  exact e2
end
end DS
namespace DS
open PySem (Str)
noncomputable section
open Classical
noncomputable def absI (x:Int):Int:=if 0-x > x then 0-x else x
noncomputable abbrev eAbs:EM:=eCB max2B (zA0 (eVar 0) (zA0 (eOp subD (eC (.int 0)) (eVar 0)) aNil))
noncomputable abbrev zQk (i j:Nat):SM:=sSet i (eOp modD (eOp addD (eOp mulD (eVar i) (eC (.int 48271))) (eOp modD (eVar j) (eC (.int 2147483629)))) (eC (.int 2147483647)))
noncomputable abbrev zWp (i:Nat):EM:=zAt 1 [] (iVal (eVar i)) (gName 0) (tB (eOp geD (eVar 0) (eOp powD (eC (.int 10)) (eC (.int 18))))) (eVar 0)
noncomputable abbrev zR1 (i j:Nat):SM:=sRet (zSk [zF8,kNum,zGg] (zA0 (eVar j) (zA0 (eC (.int 0)) (zA0 (eNew (eUn revL (zWp i))) aNil))))
theorem zSt {S:Store}{env:Env}(ns:List Int) (h:ns.length<=most):zDc [] (gName 0) tYes eAbs 0 (ns.map D.int) (compEnv 1 [] env) S=.ok ((ns.map absI).map D.int) S:=by
 have:=comp_map (gd:=[]) (j:=0) (e:=eAbs) (f:=fun d=>match d with|.int x=>.int (absI x)|d=>d) (S:=S) (l:=ns.map D.int) (env:=compEnv 1 [] env) zAq (by simp[compEnv]) (by simpa using h) fun d hd env' a=>by
  obtain⟨x,_,rfl⟩:=xk.mp hd
  have e0:∀S,eVar 0 env' S=.ok (.int x) S:=fun S=>by unfold eVar;rw[a.at_]
  unfold eAbs eCB zA0 eOp aNil eC
  simp only[e0,Rs.bind_ok,subD,zA7,max2B]
  rfl
 rw[this,xG,xG]
 rfl
theorem zQ9 {S:Store}{env:Env}(i:Nat) (ns:List Int) (hi:env[i]?=some (some (.lst (ns.map D.int)))) (h:ns.length<=most):zWp i env S=.ok (.lst ((ns.filter fun x=>decide ((10:Int) ^ 18<=x)).map D.int)) S:=by
 unfold zWp zAt iVal
 have e0:eVar i env S=.ok (.lst (ns.map D.int)) S:=by unfold eVar;rw[hi]
 rw[e0,Rs.bind_ok,show zDd S (.lst (ns.map D.int))=some ⟨ns.map D.int,[]⟩from rfl,zA7,Rs.bind_ok]
 have:=zGo (gd:=[]) (j:=0) (c:=tB (eOp geD (eVar 0) (eOp powD (eC (.int 10)) (eC (.int 18))))) (e:=eVar 0) (f:=id) (p:=fun d=>match d with|.int x=>decide ((10:Int) ^ 18<=x)|_=>false) (S:=S) zAq (ns.map D.int) 0 (compEnv 1 [] env) (by simp[compEnv]) (by simpa using h) (fun d hd env' a=>by
  obtain⟨x,_,rfl⟩:=xk.mp hd
  have e0:∀S,eVar 0 env' S=.ok (.int x) S:=fun S=>by unfold eVar;rw[a.at_]
  have pw:powD S (.int 10) (.int 18)=some (.int ((10:Int) ^ 18)):=by
   show(if(0:Int)<=18/\(18:Int)<=1000000/\(10:Int).natAbs<2 ^ 64 then some (D.int ((10:Int) ^ (18:Int).toNat))else none)=_
   rw[xc (by decide)];rfl
  unfold tB eOp eC
  simp only[e0,Rs.bind_ok,pw,zA7,geD,asB]) (fun d hd hp env' a=>by
  unfold eVar;rw[a.at_];rfl)
 rw[this,Rs.bind_ok,List.map_id]
 congr 2
 exact List.filter_map
theorem zSh {S:Store}{env:Env}{i j k:Nat}(hij:i≠j) (hik:i≠k) (hjk:j≠k) {ns:List Int}{a0:Int}(h1:env[i]?=some (some (.lst (ns.map D.int)))) (h2:env[j]?=some (some (.int a0))) (hk:k<env.length) (l0:0<=a0) (l1:a0<2147483647):
  ∃env' seed,sFor (iVal (eVar i)) (gName k) (zQk j k) env S=.nx env' S/\env'.length=env.length/\env'[i]?=some (some (.lst (ns.map D.int)))/\env'[j]?=some (some (.int seed))/\0<=seed/\seed<2147483647:=by
 have e0:eVar i env S=.ok (.lst (ns.map D.int)) S:=by unfold eVar;rw[h1]
 obtain⟨env',e1,l2,a2,⟨seed,es,s0,s1⟩,o2⟩:=zPz (gd:=[]) (i:=j) (j:=k) (b:=zQk j k) (S:=S) (f:=fun a d=>match a,d with|.int a,.int d=>.int ((a*48271+d % 2147483629) % 2147483647)|a,_=>a) hjk zAq (I:=fun d=>∃x:Int,d=.int x/\0<=x/\x<2147483647) (ns.map D.int) env (.int a0) h2 hk ⟨a0,rfl,l0,l1⟩ fun d hd env' a hl q1 q2 q3 q4=>by
  obtain⟨x,_,rfl⟩:=xk.mp hd
  obtain⟨y,rfl,y0,y1⟩:=q3
  refine⟨?_,_,rfl,vy _ (by decide),vx _ (by decide)⟩
  have v1:∀S,eVar j env' S=.ok (.int y) S:=fun S=>by unfold eVar;rw[q1]
  have v2:∀S,eVar k env' S=.ok (.int x) S:=fun S=>by unfold eVar;rw[q2]
  unfold zQk sSet eOp eC
  simp only[v1,v2,Rs.bind_ok,Rs.then_ok,zA7,zGc (show sm y/\sm 48271 from⟨zFt y0 (by nofun),zFt (by decide) (by decide)⟩),zBy (show(0:Int)<2147483629 by decide),addD,zBy (show(0:Int)<2147483647 by decide)]
 refine⟨env',seed,?_,l2,by rw[o2 i hij hik];exact h1,by rw[a2,es],s0,s1⟩
 unfold sFor iVal
 rw[e0,Rs.bind_ok,show zDd S (.lst (ns.map D.int))=some ⟨ns.map D.int,[]⟩from rfl,zA7,Rs.then_ok]
 exact e1
theorem zXt {S:Store}{env:Env}{i j:Nat}{ns:List Int}{seed:Int}(h1:env[i]?=some (some (.lst (ns.map D.int)))) (h2:env[j]?=some (some (.int seed))) (s0:0<=seed) (s1:seed<2147483647) (hl:ns.length<=most):
  ∃S',zR1 i j env S=.rt (.ref S.length) S'/\Deal S' S.length (S.length+1)/\S'.length=S.length+2/\∀k,k<S.length->S'[k]?=S[k]?:=by
 have v2:∀S,eVar j env S=.ok (.int seed) S:=fun S=>by unfold eVar;rw[h2]
 have rv:∀S (l:List D),revL S (.lst l)=some (.lst l.reverse):=fun _ _=>rfl
 have lk:((S++[D.dct false [] []])++[D.lst ((ns.filter fun x=>decide ((10:Int) ^ 18<=x)).map D.int).reverse])[S.length]?=some (D.dct false [] []):=by simp
 refine⟨((S++[D.dct false [] []])++[D.lst ((ns.filter fun x=>decide ((10:Int) ^ 18<=x)).map D.int).reverse]).set S.length (.dct false [zF8,kNum,zGg] [.int seed,.int 0,.ref (S++[D.dct false [] []]).length]),?_,?_,?_,?_⟩
 ·unfold zR1 sRet zSk eNew eUn zA0 aNil eC
  simp only[v2,Rs.bind_ok,zQ9 i ns h1 hl,rv,zA7,lk,xi,Rs.then_ok]
 ·refine⟨seed,0,(ns.filter fun x=>decide ((10:Int) ^ 18<=x)).reverse,?_,?_,by nofun,s0,s1⟩
  ·simp[zFe]
  ·simp
 ·simp
 ·intro k hk
  rw[xI (by nofun),xX (by simp;lia),xX hk]
theorem zSr {ns:List Int}{lo hi:Option Int}:cutL (ns.map D.int) lo hi=(cutL ns lo hi).map D.int:=by
 unfold cutL
 simp[List.map_drop,List.map_take]
end
end DS
namespace DS
open PySem (Str)
noncomputable section
open Classical
noncomputable def BB (k:Nat) (x:Int):Prop:=x.natAbs<2 ^ k
theorem BB.mul {i j:Nat}{x y:Int}(h:BB i x) (h':BB j y):BB (i+j) (x*y):=by
 unfold BB at *
 rw[Int.natAbs_mul,Nat.pow_add]
 exact Nat.mul_lt_mul_of_lt_of_le h (vb h') (Nat.two_pow_pos j)
theorem BB.mono {i j:Nat}{x:Int}(h:BB i x) (k:i<=j):BB j x:=xr h (uX (by decide) k)
theorem BB.add {i j:Nat}{x y:Int}(h:BB i x) (h':BB j y):BB (max i j+1) (x+y):=by
 unfold BB at *
 refine ya (Int.natAbs_add_le x y) ?_
 rw[Nat.pow_succ,Nat.mul_two]
 exact Nat.add_lt_add (xr h (uX (by decide) (Nat.le_max_left _ _))) (xr h' (uX (by decide) (Nat.le_max_right _ _)))
theorem BB.neg {i:Nat}{x:Int}(h:BB i x):BB i (-x):=by unfold BB at *;rwa[Int.natAbs_neg]
theorem BB.sub {i j:Nat}{x y:Int}(h:BB i x) (h':BB j y):BB (max i j+1) (x-y):=by
 rw[Int.sub_eq_add_neg];exact h.add h'.neg
theorem BB.sm {i:Nat}{x:Int}(h:BB i x) (k:i<=4000):sm x:=xr h (uX (by decide) (by nofun))
theorem BB.of {k:Nat}{x:Int}(h1:-(2 ^ k:Int)<x) (h2:x<2 ^ k):BB k x:=by
 unfold BB
 have:((2 ^ k:Nat):Int)=2 ^ k:=by norm_cast
 lia
theorem BB.lit {k:Nat}{x:Int}(h:Nat.ble (x.natAbs+1) (2 ^ k)=true):BB k x:=ym h
theorem zAp {S:Store}{i j:Nat}{x y:Int}(h:BB i x) (h':BB j y) (hi:i<=4000:=by decide) (hj:j<=4000:=by decide):mulD S (.int x) (.int y)=some (.int (x*y)):=zGc ⟨h.sm hi,h'.sm hj⟩
theorem zAl {np nl:Nat}{b:SM}{ds:List D}{S:Store}{d:D}(hl:ds.length=np) (h:b (ds.map some++List.replicate (nl-np) none) S=.rt d S) (hd:d.low S.length=true):zB0 np nl b ds S=.ok d S:=by
 unfold zB0
 rw[xc hl,h]
 exact zSj hd
end
end DS
namespace DS
open PySem (Str)
noncomputable section
open Classical
noncomputable def zQl:SM:=
  (sSeq (sSet 1 (zAt 1 [] (iVal (eSl slD (eVar 0) pNo (pYes (eC (.int 63))))) (gName 0) tYes eAbs))
  (sSeq (sSet 2 (eC (.int 7919)))
  (sSeq (sFor (iVal (eVar 1)) (gName 3) (zQk 2 3)) (zR1 1 2))))
theorem zSp {S:Store}{ns:List Int}(h:ns.length<=63):∃S',zIk 1 4 zQl [.klst (ns.map D.int)] S=.ok (.ref S.length) S'/\Deal S' S.length (S.length+1)/\S'.length=S.length+2/\∀k,k<S.length->S'[k]?=S[k]?:=by
 have hl:((cutL ns none (some 63)).map absI).length<=most:=by
  have:(cutL ns none (some 63)).length<=ns.length:=by unfold cutL;rw[vH,vY];lia
  have m63:63<=most:=by decide
  rw[xn];lia
 have sl:slD S (.klst (ns.map D.int)) none (some 63)=some (.lst ((cutL ns none (some 63)).map D.int)):=by
  show some (D.lst (cutL (ns.map D.int) none (some 63)))=_
  rw[zSr]
 have c1:=zSt (S:=S) (env:=[some (.klst (ns.map D.int)),none,none,none]) (cutL ns none (some 63)) (by rw[xn]at hl;exact hl)
 have w1:zDd S (.lst ((cutL ns none (some 63)).map D.int))=some ⟨(cutL ns none (some 63)).map D.int,[]⟩:=rfl
 unfold zIk zQl
 simp only[xY,vI,Nat.reduceAdd,xi,xt,vE,Nat.reduceSub,List.replicate,List.cons_append,ud]
 obtain⟨env',seed,e1,l1,a1,b1,s0,s1⟩:=zSh (S:=S) (env:=[some (.klst (ns.map D.int)),some (.lst (((cutL ns none (some 63)).map absI).map D.int)),some (.int 7919),none]) (i:=1) (j:=2) (k:=3) (by decide) (by decide) (by decide) rfl rfl (by simp) (by decide) (by decide)
 obtain⟨S',e2,d2,l2,o2⟩:=zXt (S:=S) a1 b1 s0 s1 hl
 refine⟨S',?_,d2,l2,o2⟩
 have st:sSeq (sSet 1 (zAt 1 [] (iVal (eSl slD (eVar 0) pNo (pYes (eC (.int 63))))) (gName 0) tYes eAbs)) (sSeq (sSet 2 (eC (.int 7919))) (sSeq (sFor (iVal (eVar 1)) (gName 3) (zQk 2 3)) (zR1 1 2))) [some (.klst (ns.map D.int)),none,none,none] S=.rt (.ref S.length) S':=by
  simp only[sSeq,sSet,zAt,iVal,eSl,pYes,pNo,eC,eOp,eVar,xB,xN,Rs.bind_ok,zA7,vz,asI,sl,w1,c1,Rs.then_ok,v8,vQ,addD]
  simp only[e1,e2]
 rw[st]
end
end DS
namespace DS
open PySem (Str)
noncomputable section
open Classical
theorem zKm {gd:List (Nat × D)}{j:Nat}{b:SM}{I:Nat->Env->Store->Prop}(hg:∀i env S,I i env S->gOk S gd):∀(l:List D) (i:Nat) (env:Env) (S:Store),(∀k d env S,l[k]?=some d->I (i+k) env S->∃env' S',b (env.set j (some d)) S=.nx env' S'/\I (i+k+1) env' S')->I i env S->∃env' S',forL gd (gName j) b l env S=.nx env' S'/\I (i+l.length) env' S'
 | [],i,env,S,_,h=>⟨env,S,by rw[forL,xc (hg i env S h)],h⟩
 | d::l,i,env,S,st,h=>by
  obtain⟨env1,S1,e1,h1⟩:=st 0 d env S rfl h
  obtain⟨env2,S2,e2,h2⟩:=zKm hg l (i+1) env1 S1 (fun k d env S hk hi=>by
   have:=st (k+1) d env S (by simpa using hk) (by rw[show i+(k+1)=i+1+k by nofun];exact hi)
   rwa[show i+(k+1)+1=i+1+k+1 by nofun]at this) h1
  refine⟨env2,S2,?_,by rw[xY,show i+(l.length+1)=i+1+l.length by nofun];exact h2⟩
  rw[forL,xc (hg i env S h),show gName j S d env=some (env.set j (some d))from rfl]
  dsimp only
  rw[e1]
  exact e2
structure Grow (n m:Nat) (S S':Store):Prop where
 len:S.length<=S'.length
 at_:∀k,k<S.length->k≠n->k≠m->S'[k]?=S[k]?
section
variable {n m:Nat}{S S' S'':Store}
theorem Grow.trans (a:Grow n m S S') (b:Grow n m S' S''):Grow n m S S'':=⟨xH a.len b.len,fun k h h1 h2=>(b.at_ k (xr h a.len) h1 h2).trans (a.at_ k h h1 h2)⟩
theorem Only.grow (a:Only n m S S'):Grow n m S S':=⟨by rw[a.len];exact xh _,fun k _ h1 h2=>a.at_ k h1 h2⟩
theorem Grow.app (T:Store):Grow n m S (S++T):=⟨by simp,fun k h _ _=>xX h⟩
theorem Grow.set {c:Nat}{d:D}(a:Grow n m S S') (h:S.length<=c):Grow n m S (S'.set c d):=⟨by simpa using a.len,fun k hk h1 h2=>by rw[xI (by nofun)];exact a.at_ k hk h1 h2⟩
theorem Deal.lt (h:Deal S n m):n<S.length/\m<S.length:=by
 obtain⟨_,_,_,h⟩:=h
 exact⟨h.lt,h.ltm⟩
theorem Deal.app (h:Deal S n m) (T:Store):Deal (S++T) n m:=by
 have l:=h.lt
 obtain⟨a,b,c,h⟩:=h
 exact⟨a,b,c,⟨by rw[xX l.1];exact h.d,by rw[xX l.2];exact h.l,h.ne,h.lo,h.hi⟩⟩
theorem Deal.set {k:Nat}{d:D}(h:Deal S n m) (h1:k≠n) (h2:k≠m):Deal (S.set k d) n m:=by
 obtain⟨a,b,c,h⟩:=h
 exact⟨a,b,c,⟨by rw[xI h1];exact h.d,by rw[xI h2];exact h.l,h.ne,h.lo,h.hi⟩⟩
theorem zJ7 {n:Nat}:∀{S S':Store},S.length<=S'.length->(∀(i:Nat) (d:D),i<S.length->S'[i]?=some d->S[i]?=some d\/d.low n=true)->keeps n S S'
 | [],_,_,_=>trivial
 | a::r,[],e,_=>by simp at e
 | a::r,b::t,e,h=>⟨by
   rcases h 0 b (by simp) rfl with q|q
   ·exact .inl (by simpa using q)
   ·exact .inr q,zJ7 (by simpa using e) fun i d hi q=>by simpa using h (i+1) d (by simpa using hi) (by simpa using q)⟩
theorem zM1 {d:D}(h:Deal S n m) (h':Deal S' n m) (g:Grow n m S S') (hd:d.low S.length=true):∃S'',fin S d S'=.ok d S''/\Deal S'' n m/\Only n m S S'':=by
 have l:=h.lt
 refine⟨S'.take S.length,?_,?_,?_⟩
 ·unfold fin
  rw[xc,xc hd]
  refine zJ7 g.len fun i e hi he=>?_
  obtain⟨_,_,_,h'⟩:=h'
  by_cases h1:i=n
  ·subst h1;rw[h'.d]at he;cases he;exact .inr (zLm l.2)
  ·by_cases h2:i=m
   ·subst h2;rw[h'.l]at he;cases he;exact .inr (low_ints _)
   ·rw[g.at_ i hi h1 h2]at he;exact .inl he
 ·obtain⟨a,b,c,h'⟩:=h'
  exact⟨a,b,c,⟨by rw[ub l.1];exact h'.d,by rw[ub l.2];exact h'.l,h'.ne,h'.lo,h'.hi⟩⟩
 ·refine⟨by rw[vH];have:=g.len;lia,fun k h1 h2=>?_⟩
  by_cases hk:k<S.length
  ·rw[ub hk];exact g.at_ k hk h1 h2
  ·rw[vK (by rw[vH];lia),vK (by nofun)]
theorem zHo {np nl:Nat}{b:SM}{ds:List D}{d:D}(hl:ds.length=np) (h:b (ds.map some++List.replicate (nl-np) none) S=.rt d S') (h0:Deal S n m) (h1:Deal S' n m) (o:Grow n m S S') (hd:d.low S.length=true):∃S'',zB0 np nl b ds S=.ok d S''/\Deal S'' n m/\Only n m S S'':=by
 obtain⟨S'',e,a,b'⟩:=zM1 h0 h1 o hd
 refine⟨S'',?_,a,b'⟩
 unfold zB0
 rw[xc hl,h]
 exact e
end
theorem zLb {k:Int}(h0:0<=k) (h:k<1000000):zEg [.int k]=some ⟨(List.range k.toNat).map fun(i:Nat)=>.int (i:Int),[]⟩:=by
 show(if fits62 k=true then some (Walk.mk (zEs 0 k) [])else none)=_
 rw[xc (by unfold fits62;exact xw ⟨by nofun,by nofun⟩)]
 unfold zEs
 simp
theorem zLj {α:Type}[BEq α] [LawfulBEq α]:∀{l m:List α},l.Nodup->(∀x∈l,x∈m)->l.length<=m.length
 | [],_,_,_=>vf _
 | a::l,m,h,hm=>by
  have hn:=vX.mp h
  have am:=hm a (.head _)
  have:=zLj (l:=l) (m:=m.erase a) hn.2 fun x hx=>(List.mem_erase_of_ne fun z=>hn.1 (by subst z;exact hx)).mpr (hm x (.tail _ hx))
  rw[List.length_erase_of_mem am]at this
  have:0<m.length:=List.length_pos_of_mem am
  rw[xY];lia
theorem zSg {N:Int}{v:Int}{taken:List Int}(hN:(taken.length:Int)<N) (h0:0<=v):∃j:Nat,(v+j) % N ∉ taken/\∀i:Nat,i<j->(v+i) % N∈taken:=by
 have ex:∃j:Nat,(v+j) % N ∉ taken:=by
  apply vN
  intro h
  have h:∀j:Nat,(v+j) % N∈taken:=fun j=>vN fun q=>h ⟨j,q⟩
  have nd:((List.range N.toNat).map fun(j:Nat)=>(v+j) % N).Nodup:=by
   refine yj.mpr ((List.pairwise_lt_range (n:=N.toNat)).imp_of_mem fun {a b} ha hb hab e=>?_)
   have ha:=xC.mp ha
   have hb:=xC.mp hb
   have d:(v+b-(v+a)) % N=0:=Int.emod_eq_emod_iff_emod_sub_eq_zero.mp e.symm
   rw[show v+(b:Int)-(v+a)=((b-a:Nat):Int) by nofun,Int.emod_eq_of_lt (by nofun) (by nofun)]at d
   lia
  have:=zLj nd fun x hx=>by
   obtain⟨j,_,rfl⟩:=xk.mp hx
   exact h j
  rw[xn,List.length_range]at this
  lia
 obtain⟨j,hj⟩:=ex
 induction j using Nat.strongRecOn with
 | _ j ih=>
  by_cases q:∃i:Nat,i<j/\(v+i) % N ∉ taken
  ·obtain⟨i,hi,hn⟩:=q
   exact ih i hi hn
  ·exact⟨j,hj,fun i hi=>vN fun z=>q ⟨i,hi,z⟩⟩
theorem zWj {S:Store}{c:Nat}{d:D}(h:S[c]?=some d):gOk S [(c,d)]:=fun p hp=>by rw[xV.mp hp];exact h
theorem zQv {S:Store}{c:Nat}{l:List D}(h:S[c]?=some (.lst l)):zDd S (.ref c)=some ⟨l,[(c,.lst l)]⟩:=by
 unfold zDd look gdOf
 simp only[h]
end
end DS
namespace DP
open DS
noncomputable section
open Classical
noncomputable abbrev Pt:=Int × Int
noncomputable abbrev cel (p:Pt):D:=.tup [.int p.1,.int p.2]
noncomputable def crs (a b c:Pt):Int:=(b.1-a.1)*(c.2-a.2)-(b.2-a.2)*(c.1-a.1)
noncomputable def sgn (x:Int):Int:=if 0<x then 1 else if x<0 then -1 else 0
noncomputable def BP (p:Pt):Prop:=BB 100 p.1/\BB 100 p.2
noncomputable def popS:List Pt->Pt->List Pt
 | b::a::r,c=>if crs a b c<=0 then popS (a::r) c else b::a::r
 | st,_=>st
noncomputable def lturns (cs:List Pt):List Pt:=(cs.foldl (fun st c=>c::popS st c) []).reverse
theorem zWy {x:Int}:decide (sgn x<=0)=decide (x<=0):=by
 apply vS.mpr
 unfold sgn
 split
 ·lia
 ·split <;> lia
theorem zFz {c:Pt}:∀(st:List Pt),(∀p∈popS st c,p∈st)/\(popS st c).length<=st.length
 | []=>⟨fun p h=>h,xh _⟩
 | [_]=>⟨fun p h=>h,xh _⟩
 | b::a::r=>by
  rw[popS]
  split
  ·obtain⟨h1,h2⟩:=zFz (a::r)
   exact⟨fun p h=>.tail _ (h1 p h),Nat.le_succ_of_le h2⟩
  ·exact⟨fun p h=>h,xh _⟩
theorem zDi {k:Nat}:∀(l:List Pt),lowL k (l.map cel)=true
 | []=>rfl
 | x::l=>by show((cel x).low k && lowL k (l.map cel))=true;rw[zDi l];rfl
theorem zTi {cs:List Pt}:(lturns cs).length<=cs.length:=by
 have:∀(cs st:List Pt),(cs.foldl (fun st c=>c::popS st c) st).length<=cs.length+st.length:=by
  intro cs
  induction cs with
  | nil=>intro st;simp
  | cons c cs ih=>
   intro st
   have h:=ih (c::popS st c)
   have h2:=(zFz (c:=c) st).2
   simp only[uB,xY]at h ⊢
   lia
 have h:=this cs []
 unfold lturns
 rw[uz]
 simpa using h
theorem zSq {l:List D}:cutL l none (some (-1))=l.dropLast:=by
 have e1:sIx l.length 0 none=0:=rfl
 have e2:sIx l.length l.length (some (-1))=l.length-1:=by
  show(if(-1:Int)<0 then(-1+(l.length:Int)).toNat else min (-1:Int).toNat l.length)=_
  rw[xc (by decide)];lia
 unfold cutL
 rw[e1,e2,List.drop_zero,List.dropLast_eq_take,Nat.sub_zero]
theorem zH8 {a b:Int}(ha:0<a) (h:0<=a*b):0<=b:=by
 rcases(show b<0\/0<=b by nofun)with q|q
 ·have:=Int.mul_neg_of_pos_of_neg ha q;lia
 ·exact q
theorem ang {x1 x2 y1 y2 z1 z2:Int}(hx:0<x1\/(x1=0/\0<x2)) (hy:0<y1\/(y1=0/\0<y2)) (hz:0<z1\/(z1=0/\0<=z2)) (h1:0<=x1*y2-x2*y1) (h2:0<=y1*z2-y2*z1):0<=x1*z2-x2*z1:=by
 rcases hy with y|⟨y,y'⟩
 ·have e:y1*(x1*z2-x2*z1)=x1*(y1*z2-y2*z1)+z1*(x1*y2-x2*y1):=by grind
  have p1:0<=x1*(y1*z2-y2*z1):=xT (by nofun) h2
  have p2:0<=z1*(x1*y2-x2*y1):=xT (by nofun) h1
  exact zH8 y (by rw[e];exact Int.add_nonneg p1 p2)
 ·subst y
  have z0:z1=0:=by
   rcases hz with z|z
   ·have:=vA y' z;lia
   ·exact z.1
  subst z0
  have p1:0<=x1*z2:=xT (by nofun) (by nofun)
  lia
theorem opp {a1 a2 q1 q2 b1 b2:Int}(ha:a1<0\/(a1=0/\a2<0)) (hq:0<q1\/(q1=0/\0<q2)) (e:a1*q2=a2*q1) (h:0<b1*a2-b2*a1):b1*q2-b2*q1<0:=by
 rcases hq with q|⟨q,q'⟩
 ·rcases(show b1*q2-b2*q1<0\/0<=b1*q2-b2*q1 by nofun)with z|z
  ·exact z
  ·have i:a1*(b1*q2-b2*q1)=q1*(b1*a2-b2*a1):=by
    have:a1*(b1*q2-b2*q1)=b1*(a1*q2)-b2*q1*a1:=by grind
    rw[this,e];grind
   have p1:=vA q h
   have p2:a1*(b1*q2-b2*q1)<=0:=Int.mul_nonpos_of_nonpos_of_nonneg (by nofun) z
   lia
 ·subst q
  have a0:a1=0:=by
   rcases ha with a|a
   ·have:=Int.mul_neg_of_neg_of_pos a q';lia
   ·exact a.1
  subst a0
  have a2n:a2<0:=by nofun
  rcases(show b1<0\/0<=b1 by nofun)with b|b
  ·have:=Int.mul_neg_of_neg_of_pos b q';lia
  ·have:=u3 b (xR a2n);lia
noncomputable def plt (p q:Pt):Prop:=p.1<q.1\/(p.1=q.1/\p.2<q.2)
theorem zOj {p q r:Pt}(h:plt p q) (h':plt q r):plt p r:=by unfold plt at *;lia
theorem zF5 {p:Pt}(h:plt p p):False:=by unfold plt at h;lia
theorem zG9 {p q:Pt}(h:plt p q) (h':plt q p):False:=zF5 (zOj h h')
theorem far {a b d c:Pt}(h1:plt a b) (h2:plt b d) (h3:plt b c) (t1:0<=crs a b d) (t2:0<=crs b d c):0<=crs a b c:=by
 have e1:crs a b d=(b.1-a.1)*(d.2-b.2)-(b.2-a.2)*(d.1-b.1):=by unfold crs;grind
 have e2:crs b d c=(d.1-b.1)*(c.2-b.2)-(d.2-b.2)*(c.1-b.1):=by unfold crs;grind
 have e3:crs a b c=(b.1-a.1)*(c.2-b.2)-(b.2-a.2)*(c.1-b.1):=by unfold crs;grind
 unfold plt at *
 rw[e3]
 exact ang (by nofun) (by nofun) (by nofun) (e1 ▸ t1) (e2 ▸ t2)
theorem skip {a b c p:Pt}(h1:plt a b) (h2:plt a c) (h3:p=a\/plt a p) (t1:crs a b c<=0) (t2:0<=crs a b p):0<=crs a c p:=by
 have t1':0<=(c.1-a.1)*(b.2-a.2)-(c.2-a.2)*(b.1-a.1):=by unfold crs at t1;grind
 unfold crs at *
 unfold plt at *
 refine ang (y1:=b.1-a.1) (y2:=b.2-a.2) (by nofun) (by nofun) ?_ t1' t2
 rcases h3 with h|h
 ·subst h;lia
 ·lia
theorem zU7 {a b c p:Pt}(h1:plt a b) (h2:plt b c) (h3:plt p b) (t1:0<crs a b c) (t2:0<=crs a b p):0<=crs b c p:=by
 have e1:crs a b c=(b.1-a.1)*(c.2-b.2)-(b.2-a.2)*(c.1-b.1):=by unfold crs;grind
 have e2:crs a b p=(b.1-p.1)*(b.2-a.2)-(b.2-p.2)*(b.1-a.1):=by unfold crs;grind
 have e3:crs b c p=(b.1-p.1)*(c.2-b.2)-(b.2-p.2)*(c.1-b.1):=by unfold crs;grind
 unfold plt at *
 rw[e3]
 exact ang (y1:=b.1-a.1) (y2:=b.2-a.2) (by nofun) (by nofun) (by nofun) (e2 ▸ t2) (by have:=e1 ▸ t1;lia)
noncomputable def Ok (P:List Pt):List Pt->Prop
 | b::a::r=>plt a b/\(∀p∈P,0<=crs a b p)/\(∀z r',r=z::r'->0<crs z a b)/\Ok P (a::r)
 | _=>True
theorem Ok.tail {P:List Pt}{b:Pt}{r:List Pt}(h:Ok P (b::r)):Ok P r:=by
 match r,h with
 | [],_=>trivial
 | _::_,h=>exact h.2.2.2
theorem zTb {P:List Pt}{c:Pt}(hc:∀p∈P,plt p c):∀(st:List Pt),(∀p∈st,p∈P)->Ok P st->(∀b r,st=b::r->∀p∈P,(p=b\/plt b p)->0<=crs b c p)->st≠[]->
  ∃b r,popS st c=b::r/\(b::r) <:+ st/\Ok P (b::r)/\(∀p∈P,(p=b\/plt b p)->0<=crs b c p)/\(∀a r',r=a::r'->0<crs a b c)
 | [],_,_,_,h=>absurd rfl h
 | [b],_,o,t,_=>⟨b,[],rfl,List.suffix_refl _,o,t b [] rfl,fun a r' e=>nomatch e⟩
 | b::a::r,hm,o,t,_=>by
  rw[popS]
  split
  ·rename_i q
   have ap:a∈P:=hm a (.tail _ (.head _))
   obtain⟨b',r',e1,s1,o1,t1,u1⟩:=zTb hc (a::r) (fun p hp=>hm p (.tail _ hp)) o.tail (fun b2 r2 e p hp hb=>by
    cases e
    exact skip o.1 (hc a ap) hb q (o.2.1 p hp)) (by simp)
   exact⟨b',r',e1,s1.trans (List.suffix_cons b _),o1,t1,u1⟩
  ·rename_i q
   exact⟨b,a::r,rfl,List.suffix_refl _,o,t b _ rfl,fun a' r' e=>by cases e;lia⟩
theorem zP1 {P:List Pt}{c:Pt}:∀(r:List Pt) (b:Pt),Ok P (b::r)->(∀a r',r=a::r'->0<=crs a b c)->plt b c->Ok (P++[c]) (b::r)
 | [],_,_,_,_=>trivial
 | a::r,b,o,t,h=>by
  obtain⟨o1,o2,o3,o4⟩:=o
  refine⟨o1,fun p hp=>?_,o3,zP1 r a o4 (fun z r' e=>?_) (zOj o1 h)⟩
  ·rcases vc.mp hp with hp|hp
   ·exact o2 p hp
   ·rw[xV.mp hp];exact t a r rfl
  ·subst e
   exact far o4.1 o1 (zOj o1 h) (xR (o3 z r' rfl)) (t a _ rfl)
structure Inv (P st:List Pt):Prop where
 ok:Ok P st
 sub:st.reverse.Sublist P
 top:∀b r,st=b::r->∀p∈P,p=b\/plt p b
 bot:∀r b,st=r++[b]->∀p∈P,p=b\/plt b p
 ne:P≠[]->st≠[]
theorem zSa {P st:List Pt}{c:Pt}(h:Inv P st) (hc:∀p∈P,plt p c):Inv (P++[c]) (c::popS st c):=by
 have ms:∀p∈st,p∈P:=fun p hp=>h.sub.subset (vT.mpr hp)
 have topc:∀b r,c::popS st c=b::r->∀p∈P++[c],p=b\/plt p b:=fun b r e p hp=>by
  injection e with e _
  subst e
  rcases vc.mp hp with hp|hp
  ·exact .inr (hc p hp)
  ·exact .inl (xV.mp hp)
 by_cases hn:st=[]
 ·subst hn
  have pn:P=[]:=vN fun z=>h.ne z rfl
  subst pn
  refine⟨trivial,.refl _,topc,fun r b e p hp=>?_,fun _=>by simp⟩
  match r,e with
  | [],e=>
   simp[popS]at e hp
   exact .inl (by rw[hp,<- e])
  | _::_,e=>simp[popS]at e
 ·obtain⟨b,r,e,sf,o,t,u⟩:=zTb hc st ms h.ok (fun b r e p hp hb=>by
   have tp:=h.top b r e p hp
   have:p=b:=by
    rcases hb with hb|hb
    ·exact hb
    ·rcases tp with q|q
     ·exact q
     ·exact absurd hb fun z=>zG9 z q
   subst this
   unfold crs;grind) hn
  have bp:b∈P:=ms b (sf.subset (.head _))
  have botS:∀r' b',b::r=r'++[b']->∀p∈P,p=b'\/plt b' p:=fun r' b' e'=>by
   obtain⟨s,hs⟩:=sf
   exact h.bot (s++r') b' (by rw[<- hs,e',List.append_assoc])
  rw[e]
  refine⟨⟨hc b bp,fun p hp=>?_,u,zP1 r b o (fun a r' e=>xR (u a r' e)) (hc b bp)⟩,?_,by rw[<- e];exact topc,fun r' b' e' p hp=>?_,fun _=>by simp⟩
  ·rcases vc.mp hp with hp|hp
   ·by_cases q:p=b\/plt b p
    ·exact t p hp q
    ·have pb:plt p b:=by
      have:p≠b/\¬ plt b p:=⟨fun z=>q (.inl z),fun z=>q (.inr z)⟩
      have ne:¬ (p.1=b.1/\p.2=b.2):=fun z=>this.1 (Prod.ext z.1 z.2)
      have:=this.2
      unfold plt at *;lia
     match r,u,o,botS with
     | [],_,_,botS=>exact absurd (botS [] b rfl p hp) q
     | a::r',u,o,_=>exact zU7 o.1 (hc b bp) pb (u a r' rfl) (o.2.1 p hp)
   ·rw[xV.mp hp];unfold crs;grind
  ·rw[u9]
   exact((sf.sublist.reverse).trans h.sub).append (.refl _)
  ·match r',e' with
   | [],e'=>simp at e'
   | x::r',e'=>
    injection e' with e1 e2
    rcases vc.mp hp with hp|hp
    ·exact botS r' b' e2 p hp
    ·rw[xV.mp hp]
     right
     have:b'∈b::r:=by rw[e2];simp
     exact hc b' (ms b' (sf.subset this))
theorem zPt:∀(cs P st:List Pt),Inv P st->(P++cs).Pairwise plt->Inv (P++cs) (cs.foldl (fun st c=>c::popS st c) st)
 | [],P,st,h,_=>by simpa using h
 | c::cs,P,st,h,hp=>by
  have e:P++c::cs=(P++[c])++cs:=by simp
  have s:=zSa (c:=c) h fun p hp'=>(List.pairwise_append.mp hp).2.2 p hp' c (.head _)
  rw[e,uB]
  exact zPt cs (P++[c]) _ s (e ▸ hp)
structure Way (lt:Pt->Pt->Prop) (P L:List Pt):Prop where
 sub:L.Sublist P
 two:∀i a b,L[i]?=some a->L[i+1]?=some b->lt a b/\∀p∈P,0<=crs a b p
 three:∀i a b c,L[i]?=some a->L[i+1]?=some b->L[i+2]?=some c->0<crs a b c
 fst:∀a,L[0]?=some a->∀p∈P,p=a\/lt a p
 lst:∀a,L[L.length-1]?=some a->∀p∈P,p=a\/lt p a
 ne:P≠[]->L≠[]
theorem zTg {P:List Pt}:∀(st:List Pt),Ok P st->∀(i:Nat) a b,st[i+1]?=some a->st[i]?=some b->plt a b/\∀p∈P,0<=crs a b p
 | [],_,i,a,b,h,_=>by simp at h
 | [_],_,i,a,b,h,_=>by simp at h
 | y::x::r,o,0,a,b,h,h'=>by
  simp at h h'
  subst h h'
  exact⟨o.1,o.2.1⟩
 | y::x::r,o,i+1,a,b,h,h'=>zTg (x::r) o.tail i a b (by simpa using h) (by simpa using h')
theorem zLg {P:List Pt}:∀(st:List Pt),Ok P st->∀(i:Nat) a b c,st[i+2]?=some a->st[i+1]?=some b->st[i]?=some c->0<crs a b c
 | [],_,i,a,b,c,h,_,_=>by simp at h
 | [_],_,i,a,b,c,h,_,_=>by simp at h
 | [_,_],_,i,a,b,c,h,_,_=>by simp at h
 | z::y::x::r,o,0,a,b,c,h,h',h''=>by
  simp at h h' h''
  subst h h' h''
  exact o.2.2.1 x r rfl
 | z::y::x::r,o,i+1,a,b,c,h,h',h''=>zLg (y::x::r) o.tail i a b c (by simpa using h) (by simpa using h') (by simpa using h'')
theorem zT1 {P:List Pt}(hp:P.Pairwise plt):Way plt P (lturns P):=by
 have h:=zPt P [] [] ⟨trivial,.refl _,(fun b r e=>nomatch e),(fun r b e=>by simp at e),fun z=>absurd rfl z⟩ (by simpa using hp)
 rw[ud]at h
 unfold lturns
 generalize P.foldl (fun st c=>c::popS st c) []=st at h
 have rv:∀(i:Nat) a,st.reverse[i]?=some a->i<st.length/\st[st.length-1-i]?=some a:=fun i a e=>by
  have l:i<st.length:=by have:=(xx.mp e).1;simpa using this
  rw[List.getElem?_reverse l]at e
  exact⟨l,e⟩
 refine⟨h.sub,fun i a b ha hb=>?_,fun i a b c ha hb hc=>?_,fun a ha p hp=>?_,fun a ha p hp=>?_,fun z=>by simpa using h.ne z⟩
 ·obtain⟨l1,ha⟩:=rv i a ha
  obtain⟨l2,hb⟩:=rv _ b hb
  exact zTg st h.ok (st.length-1-(i+1)) a b (by rw[<- ha];congr 1;lia) hb
 ·obtain⟨l1,ha⟩:=rv i a ha
  obtain⟨l2,hb⟩:=rv _ b hb
  obtain⟨l3,hc⟩:=rv _ c hc
  exact zLg st h.ok (st.length-1-(i+2)) a b c (by rw[<- ha];congr 1;lia) (by rw[<- hb];congr 1;lia) hc
 ·obtain⟨l,ha⟩:=rv 0 a ha
  have hn:st≠[]:=fun z=>by subst z;simp at l
  have ga:st.getLast hn=a:=by rw[List.getLast_eq_getElem];exact(xx.mp ha).2
  refine h.bot st.dropLast a ?_ p hp
  rw[<- ga];exact(List.dropLast_concat_getLast hn).symm
 ·rw[uz]at ha
  obtain⟨l,ha⟩:=rv _ a ha
  have hn:st≠[]:=fun z=>by subst z;simp at l
  obtain⟨b,r,rfl⟩:=List.exists_cons_of_ne_nil hn
  simp at ha
  subst ha
  exact h.top b r rfl p hp
noncomputable def ng (p:Pt):Pt:=(-p.1,-p.2)
theorem zM7 {a b c:Pt}:crs (ng a) (ng b) (ng c)=crs a b c:=by unfold crs ng;grind
theorem zVs {a:Pt}:ng (ng a)=a:=by simp[ng]
theorem zTc {c:Pt}:∀(st:List Pt),popS (st.map ng) (ng c)=(popS st c).map ng
 | []=>rfl
 | [_]=>rfl
 | b::a::r=>by
  show(if crs (ng a) (ng b) (ng c)<=0 then popS (ng a::r.map ng) (ng c)else ng b::ng a::r.map ng)=(if crs a b c<=0 then popS (a::r) c else b::a::r).map ng
  rw[zM7]
  split
  ·exact zTc (a::r)
  ·rfl
theorem zPf {cs:List Pt}:lturns (cs.map ng)=(lturns cs).map ng:=by
 have:∀(cs st:List Pt),(cs.map ng).foldl (fun st c=>c::popS st c) (st.map ng)=(cs.foldl (fun st c=>c::popS st c) st).map ng:=by
  intro cs
  induction cs with
  | nil=>exact fun st=>rfl
  | cons c cs ih=>
   intro st
   rw[xt,uB,uB,zTc]
   exact ih (c::popS st c)
 unfold lturns
 rw[show([]:List Pt)=([]:List Pt).map ng from rfl,this,List.map_reverse]
 rfl
theorem plt_ng {a b:Pt}:plt (ng a) (ng b) <-> plt b a:=by unfold plt ng;dsimp only;lia
theorem zXa {P:List Pt}(hp:P.Pairwise fun a b=>plt b a):Way (fun a b=>plt b a) P (lturns P):=by
 have w:=zT1 (P:=P.map ng) (yj.mpr (hp.imp fun h=>plt_ng.mpr h))
 rw[zPf]at w
 have at':∀(i:Nat) a,(lturns P)[i]?=some a->((lturns P).map ng)[i]?=some (ng a):=fun i a h=>by rw[xK,h];rfl
 have inj:∀a b:Pt,ng a=ng b->a=b:=fun a b h=>by rw[<- zVs (a:=a),h,zVs]
 refine⟨?_,fun i a b ha hb=>?_,fun i a b c ha hb hc=>?_,fun a ha p hp=>?_,fun a ha p hp=>?_,fun z=>?_⟩
 ·have:=w.sub.map ng
  rw[xG,xG,show ng ∘ ng=id from funext fun a=>zVs,List.map_id,List.map_id]at this
  exact this
 ·obtain⟨h1,h2⟩:=w.two i _ _ (at' i a ha) (at' _ b hb)
  exact⟨plt_ng.mp h1,fun p hp=>by rw[<- zM7];exact h2 _ (xk.mpr ⟨p,hp,rfl⟩)⟩
 ·rw[<- zM7];exact w.three i _ _ _ (at' i a ha) (at' _ b hb) (at' _ c hc)
 ·rcases w.fst _ (at' 0 a ha) (ng p) (xk.mpr ⟨p,hp,rfl⟩)with q|q
  ·exact .inl (inj _ _ q)
  ·exact .inr (plt_ng.mp q)
 ·rcases w.lst (ng a) (by rw[xn];exact at' _ a ha) (ng p) (xk.mpr ⟨p,hp,rfl⟩)with q|q
  ·exact .inl (inj _ _ q)
  ·exact .inr (plt_ng.mp q)
 ·have:=w.ne (by simpa using z)
  simpa using this
theorem zNl {lt:Pt->Pt->Prop}{P L:List Pt}(w:Way lt P L) (as:∀a b,lt a b->lt b a->False) (h:∃x∈P,∃y∈P,x≠y):2<=L.length:=by
 obtain⟨x,hx,y,hy,ne⟩:=h
 match L,w with
 | [],w=>exact absurd rfl (w.ne fun z=>by rw[z]at hx;cases hx)
 | [a],w=>
  exfalso
  have q:∀p∈P,p=a:=fun p hp=>by
   rcases w.fst a rfl p hp with z|z
   ·exact z
   ·rcases w.lst a rfl p hp with z'|z'
    ·exact z'
    ·exact(as _ _ z z').elim
  exact ne (by rw[q x hx,q y hy])
 | _::_::r,_=>simp
theorem zXm {x:Int}(h1:0<=x) (h2:x<2147483648*2147483648*1000):sm x:=zNz (by nofun) (by nofun)
noncomputable def Nr (k:Int) (p:Pt):Prop:=-k<=p.1/\p.1<=k/\-k<=p.2/\p.2<=k
theorem Nr.bp {k:Int}{p:Pt}(h:Nr k p) (hk:k<=100000):BP p:=⟨BB.of (by unfold Nr at h;lia) (by unfold Nr at h;lia),BB.of (by unfold Nr at h;lia) (by unfold Nr at h;lia)⟩
theorem zKl {S:Store}{a b:Int}:gtD S (.int a) (.int b)=some (.bl (decide (b<a))):=rfl
theorem zFg {l:List Pt}{i:Int}{k:Nat}{p:Pt}(h:i=k) (e:l[k]?=some p):atL (l.map cel) i=some (cel p):=atN h (by rw[xK,e];rfl)
theorem tru {S:Store}{b:Bool}:truth S (.bl b)=some b:=rfl
theorem zF7 {S:Store}{l:List D}:lenB S [.tup l]=some (.int l.length):=rfl
theorem zDu {S:Store}{l:List D}:zDd S (.tup l)=some ⟨l,[]⟩:=rfl
theorem zEl {S:Store}{l:List D}:zDd S (.lst l)=some ⟨l,[]⟩:=rfl
theorem zWn {S:Store}{b:Bool}:fin [] (.bl b) S=.ok (.bl b) []:=by
 unfold fin
 rw[xc (show keeps ([]:Store).length [] S from trivial),xc (show(D.bl b).low ([]:Store).length=true from rfl)];rfl
end
end DP
namespace DP
open DS
noncomputable section
open Classical
noncomputable def hull (rs:List Pt):List Pt:=if(lturns rs).dropLast++(lturns rs.reverse).dropLast=[]then rs else(lturns rs).dropLast++(lturns rs.reverse).dropLast
theorem back {a b p:Pt}:crs b a p=- crs a b p:=by unfold crs;grind
theorem zP0 {a b x y z:Pt}(h:plt a b\/plt b a) (hx:crs a b x=0) (hy:crs a b y=0) (hz:crs a b z=0):crs x y z=0:=by
 have e1:(b.1-a.1)*crs x y z=(y.1-x.1)*(crs a b z-crs a b x)-(z.1-x.1)*(crs a b y-crs a b x):=by unfold crs;grind
 have e2:(b.2-a.2)*crs x y z=(y.2-x.2)*(crs a b z-crs a b x)-(z.2-x.2)*(crs a b y-crs a b x):=by unfold crs;grind
 rw[hx,hy,hz]at e1 e2
 simp only[Int.sub_zero,Int.mul_zero,Int.mul_eq_zero]at e1 e2
 rcases e1 with e1|e1
 ·rcases e2 with e2|e2
  ·unfold plt at h;lia
  ·exact e2
 ·exact e1
theorem zSi {a b c p:Pt}(h:(plt a b/\plt c b)\/(plt b a/\plt b c)) (z:crs a b c=0) (h1:0<=crs a b p) (h2:0<=crs b c p):crs a b p=0:=by
 have e0:crs a b c=(c.1-b.1)*(a.2-b.2)-(c.2-b.2)*(a.1-b.1):=by unfold crs;grind
 have e1:crs a b p=(p.1-b.1)*(a.2-b.2)-(p.2-b.2)*(a.1-b.1):=by unfold crs;grind
 have e2:crs b c p=(p.2-b.2)*(c.1-b.1)-(p.1-b.1)*(c.2-b.2):=by unfold crs;grind
 rcases(show crs a b p=0\/0<crs a b p by nofun)with q|q
 ·exact q
 exfalso
 unfold plt at h
 rcases h with⟨h3,h4⟩|⟨h3,h4⟩
 ·have:=opp (a1:=a.1-b.1) (a2:=a.2-b.2) (q1:=b.1-c.1) (q2:=b.2-c.2) (b1:=p.1-b.1) (b2:=p.2-b.2) (by nofun) (by nofun) (by rw[e0]at z;grind) (by rw[<- e1];exact q)
  have e3:(p.1-b.1)*(b.2-c.2)-(p.2-b.2)*(b.1-c.1)=crs b c p:=by rw[e2];grind
  lia
 ·have e4:0<(b.1-p.1)*(b.2-a.2)-(b.2-p.2)*(b.1-a.1):=by
   have:(b.1-p.1)*(b.2-a.2)-(b.2-p.2)*(b.1-a.1)=crs a b p:=by rw[e1];grind
   lia
  have:=opp (a1:=b.1-a.1) (a2:=b.2-a.2) (q1:=c.1-b.1) (q2:=c.2-b.2) (b1:=b.1-p.1) (b2:=b.2-p.2) (by nofun) (by nofun) (by rw[e0]at z;grind) e4
  have e3:(b.1-p.1)*(c.2-b.2)-(b.2-p.2)*(c.1-b.1)=crs b c p:=by rw[e2];grind
  lia
theorem zRx {a p b q:Pt}(h1:plt a p) (h2:plt p q) (t:0<crs a p b) (s1:0<=crs a p q) (s2:0<=crs q p a) (s3:0<=crs p b q):False:=by
 have e0:crs a p b=(b.1-p.1)*(a.2-p.2)-(b.2-p.2)*(a.1-p.1):=by unfold crs;grind
 have e1:crs a p q=(q.1-p.1)*(a.2-p.2)-(q.2-p.2)*(a.1-p.1):=by unfold crs;grind
 have e2:crs q p a=- crs a p q:=by unfold crs;grind
 have e3:crs p b q=(b.1-p.1)*(q.2-p.2)-(b.2-p.2)*(q.1-p.1):=by unfold crs;grind
 have z:crs a p q=0:=by nofun
 unfold plt at h1 h2
 have:=opp (a1:=a.1-p.1) (a2:=a.2-p.2) (q1:=q.1-p.1) (q2:=q.2-p.2) (b1:=b.1-p.1) (b2:=b.2-p.2) (by nofun) (by nofun) (by rw[e1]at z;grind) (e0 ▸ t)
 lia
structure Hull (rs H:List Pt):Prop where
 len:2<=H.length
 fst:∃a,H[0]?=some a/\∀p∈rs,p=a\/plt a p
 sub:∀p∈H,p∈rs
 nd:H.Nodup
 side:∀k,k<H.length->∃a b c,H[k]?=some a/\H[(k+1) % H.length]?=some b/\H[(k+2) % H.length]?=some c/\(∀p∈rs,0<=crs a b p)/\(2<H.length->0<crs a b c)
 lin:H.length=2->∃a b,H=[a,b]/\(∀p∈rs,crs a b p=0)/\∀p∈rs,p=b\/plt p b
theorem zWf {rs:List Pt}(hr:rs.Pairwise plt) (h2:2<=rs.length):Hull rs (hull rs):=by
 have wl:=zT1 hr
 have wu':=zXa (P:=rs.reverse) (List.pairwise_reverse.mpr hr)
 have two:∃x∈rs,∃y∈rs,x≠y:=by
  match rs,h2,hr with
  | x::y::r,_,hr=>exact⟨x,.head _,y,.tail _ (.head _),fun z=>by
    subst z
    exact zF5 ((vM.mp hr).1 x (.head _))⟩
 have l1:=zNl wl (fun _ _=>zG9) two
 have l2:=zNl wu' (fun _ _ h h'=>zG9 h h') (by
  obtain⟨x,hx,y,hy,e⟩:=two
  exact⟨x,vT.mpr hx,y,vT.mpr hy,e⟩)
 unfold hull
 generalize lturns rs=L at *
 generalize lturns rs.reverse=U at *
 have ne:L.dropLast++U.dropLast≠[]:=fun z=>by
  have:=congrArg List.length z
  simp at this
  lia
 rw[xf ne]
 obtain⟨m,hm,m1⟩:∃m,L.length=m+1/\1<=m:=⟨L.length-1,by nofun,by nofun⟩
 obtain⟨k,hk,k1⟩:∃k,U.length=k+1/\1<=k:=⟨U.length-1,by nofun,by nofun⟩
 obtain⟨gL,hL⟩:∃g:Nat->Pt,∀i,i<=m->L[i]?=some (g i):=⟨fun i=>L.getD i (0,0),fun i hi=>by
  have:i<L.length:=by nofun
  simp[this]⟩
 obtain⟨gU,hU⟩:∃g:Nat->Pt,∀i,i<=k->U[i]?=some (g i):=⟨fun i=>U.getD i (0,0),fun i hi=>by
  have:i<U.length:=by nofun
  simp[this]⟩
 have mL:∀i,i<=m->gL i∈rs:=fun i hi=>wl.sub.subset (xU (hL i hi))
 have mU:∀i,i<=k->gU i∈rs:=fun i hi=>vT.mp (wu'.sub.subset (xU (hU i hi)))
 have eqof:∀{lt:Pt->Pt->Prop},(∀a b,lt a b->lt b a->False)->∀a b,(b=a\/lt a b)->(a=b\/lt b a)->a=b:=fun as a b h h'=>by
  rcases h with z|z
  ·exact z.symm
  ·rcases h' with z'|z'
   ·exact z'
   ·exact(as _ _ z z').elim
 have top:gL m=gU 0:=by
  have a1:=wl.lst (gL m) (by rw[hm];exact hL m (xh _)) (gU 0) (mU 0 (by nofun))
  have a2:=wu'.fst (gU 0) (hU 0 (by nofun)) (gL m) (vT.mpr (mL m (xh _)))
  exact eqof (lt:=fun a b=>plt b a) (fun _ _ h h'=>zG9 h h') _ _ a1 a2
 have bot:gU k=gL 0:=by
  have a1:=wu'.lst (gU k) (by rw[hk];exact hU k (xh _)) (gL 0) (vT.mpr (mL 0 (by nofun)))
  have a2:=wl.fst (gL 0) (hL 0 (by nofun)) (gU k) (mU k (xh _))
  exact eqof (lt:=plt) (fun _ _ h h'=>zG9 h h') _ _ a1 a2
 have pL:∀i,i<m->plt (gL i) (gL (i+1))/\∀p∈rs,0<=crs (gL i) (gL (i+1)) p:=fun i hi=>wl.two i _ _ (hL i (by nofun)) (hL (i+1) hi)
 have pU:∀i,i<k->plt (gU (i+1)) (gU i)/\∀p∈rs,0<=crs (gU i) (gU (i+1)) p:=fun i hi=>by
  obtain⟨a,b⟩:=wu'.two i _ _ (hU i (by nofun)) (hU (i+1) hi)
  exact⟨a,fun p hp=>b p (vT.mpr hp)⟩
 have tL:∀i,i+2<=m->0<crs (gL i) (gL (i+1)) (gL (i+2)):=fun i hi=>wl.three i _ _ _ (hL i (by nofun)) (hL _ (by nofun)) (hL _ hi)
 have tU:∀i,i+2<=k->0<crs (gU i) (gU (i+1)) (gU (i+2)):=fun i hi=>wu'.three i _ _ _ (hU i (by nofun)) (hU _ (by nofun)) (hU _ hi)
 have len:(L.dropLast++U.dropLast).length=m+k:=by simp;lia
 have atH:∀i,i<m+k->(L.dropLast++U.dropLast)[i]?=some (if i<m then gL i else gU (i-m)):=fun i hi=>by
  have d1:L.dropLast.length=m:=by simp;lia
  have d2:U.dropLast.length=k:=by simp;lia
  by_cases q:i<m
  ·rw[xc q,xX (by nofun),List.getElem?_dropLast,xc (by nofun)]
   exact hL i (by nofun)
  ·rw[xf q,vq (by nofun),d1,List.getElem?_dropLast,xc (by nofun)]
   exact hU _ (by nofun)
 /- a corner where both ways meet -/
 have meet:∀a b c,((plt a b/\plt c b)\/(plt b a/\plt b c))->c∈rs->(∀p∈rs,0<=crs a b p)->(∀p∈rs,0<=crs b c p)->2<m+k->0<crs a b c:=fun a b c h hc s1 s2 hn=>by
  rcases(show crs a b c=0\/0<crs a b c by have:=s1 c hc;lia)with z|z
  ·exfalso
   have al:∀p∈rs,crs a b p=0:=fun p hp=>zSi h z (s1 p hp) (s2 p hp)
   have dir:plt a b\/plt b a:=by
    rcases h with h|h
    ·exact .inl h.1
    ·exact .inr h.1
   by_cases q:2<=m
   ·have:=tL 0 (by nofun)
    rw[zP0 dir (al _ (mL 0 (by nofun))) (al _ (mL 1 (by nofun))) (al _ (mL 2 (by nofun)))]at this
    lia
   ·have:=tU 0 (by nofun)
    rw[zP0 dir (al _ (mU 0 (by nofun))) (al _ (mU 1 (by nofun))) (al _ (mU 2 (by nofun)))]at this
    lia
  ·exact z
 have meet1:2<m+k->0<crs (gL (m-1)) (gL m) (gU 1):=fun hn=>by
  have a1:=pL (m-1) (by nofun)
  rw[show m-1+1=m by nofun]at a1
  have a2:=pU 0 (by nofun)
  rw[vO,<- top]at a2
  exact meet _ _ _ (.inl ⟨a1.1,a2.1⟩) (mU 1 (by nofun)) a1.2 a2.2 hn
 have meet2:2<m+k->0<crs (gU (k-1)) (gU k) (gL 1):=fun hn=>by
  have a1:=pU (k-1) (by nofun)
  rw[show k-1+1=k by nofun]at a1
  have a2:=pL 0 (by nofun)
  rw[vO,<- bot]at a2
  exact meet _ _ _ (.inr ⟨a1.1,a2.1⟩) (mL 1 (by nofun)) a1.2 a2.2 hn
 have ndL:L.Pairwise plt:=hr.sublist wl.sub
 have ndU:U.Pairwise fun a b=>plt b a:=(List.pairwise_reverse.mpr hr).sublist wu'.sub
 have ltL:∀i j,i<j->j<=m->plt (gL i) (gL j):=fun i j hij hj=>by
  have:=yu.mp ndL i j (by nofun) (by nofun) hij
  rwa[(xx.mp (hL i (by nofun))).2,(xx.mp (hL j hj)).2]at this
 have ltU:∀i j,i<j->j<=k->plt (gU j) (gU i):=fun i j hij hj=>by
  have:=yu.mp ndU i j (by nofun) (by nofun) hij
  rwa[(xx.mp (hU i (by nofun))).2,(xx.mp (hU j hj)).2]at this
 have apart:∀i j,i<m->j<k->gL i≠gU j:=fun i j hi hj e=>by
  have i0:i≠0:=fun z=>by
   subst z
   have:=ltU j k hj (xh _)
   rw[bot,e]at this
   exact zF5 this
  have j0:j≠0:=fun z=>by
   subst z
   have:=ltL i m hi (xh _)
   rw[top,e]at this
   exact zF5 this
  have a1:=pL (i-1) (by nofun)
  have a2:=pL i hi
  have t:=tL (i-1) (by nofun)
  rw[show i-1+1=i by nofun]at a1 t
  rw[show i-1+2=i+1 by nofun]at t
  have b1:=pU (j-1) (by nofun)
  rw[show j-1+1=j by nofun,<- e]at b1
  exact zRx a1.1 b1.1 t (a1.2 _ (mU _ (by nofun))) (b1.2 _ (mL _ (by nofun))) (a2.2 _ (mU _ (by nofun)))
 refine⟨by nofun,⟨gL 0,by rw[atH 0 (by nofun),xc (by nofun)],wl.fst _ (hL 0 (by nofun))⟩,fun p hp=>?_,?_,fun i hi=>?_,fun hn=>?_⟩
 ·rcases vc.mp hp with hp|hp
  ·exact wl.sub.subset (List.dropLast_subset _ hp)
  ·exact vT.mp (wu'.sub.subset (List.dropLast_subset _ hp))
 ·refine List.nodup_append.mpr ⟨?_,?_,fun a ha b hb e=>?_⟩
  ·exact(ndL.sublist (List.dropLast_sublist _)).imp fun h z=>by subst z;exact zF5 h
  ·exact(ndU.sublist (List.dropLast_sublist _)).imp fun h z=>by subst z;exact zF5 h
  ·subst e
   obtain⟨i,hi,e1⟩:=yy ha
   obtain⟨j,hj,e2⟩:=yy hb
   simp at hi hj
   have x1:=hL i (by nofun)
   have x2:=hU j (by nofun)
   rw[List.getElem_dropLast]at e1 e2
   rw[xp (by nofun),e1]at x1
   rw[xp (by nofun),e2]at x2
   injection x1 with x1
   injection x2 with x2
   exact apart i j (by nofun) (by nofun) (by rw[<- x1,<- x2])
 ·rw[len]at hi ⊢
  have G1:(L.dropLast++U.dropLast)[(i+1) % (m+k)]?=some (if i+1<m then gL (i+1)else gU (i+1-m)):=by
   by_cases q:i+1<m+k
   ·rw[vU q];exact atH _ q
   ·have:i+1=m+k:=by nofun
    rw[this,Nat.mod_self,atH 0 (by nofun),xc (by nofun),xf (by nofun),show m+k-m=k by nofun,bot]
  have G2:i+2<=m+k->(L.dropLast++U.dropLast)[(i+2) % (m+k)]?=some (if i+2<m then gL (i+2)else gU (i+2-m)):=fun q'=>by
   by_cases q:i+2<m+k
   ·rw[vU q];exact atH _ q
   ·have:i+2=m+k:=by nofun
    rw[this,Nat.mod_self,atH 0 (by nofun),xc (by nofun),xf (by nofun),show m+k-m=k by nofun,bot]
  by_cases c1:i+1<m
  ·rw[xc c1]at G1
   have G2:=G2 (by nofun)
   refine⟨_,_,_,atH i hi,G1,G2,?_,fun hn=>?_⟩
   ·rw[xc (by nofun)];exact(pL i (by nofun)).2
   ·rw[xc (by nofun)]
    by_cases c2:i+2<m
    ·rw[xc c2];exact tL i (by nofun)
    ·have z:i+2=m:=by nofun
     have:=tL i (by nofun)
     rw[xf c2,z,Nat.sub_self,<- top]
     rw[z]at this
     exact this
  ·by_cases c2:i+1=m
   ·rw[xf c1,c2,Nat.sub_self,<- top]at G1
    have G2:=G2 (by nofun)
    rw[xf (by nofun),show i+2-m=1 by nofun]at G2
    have ei:i=m-1:=by nofun
    have G0:=atH i hi
    rw[xc (by nofun),ei]at G0
    refine⟨_,_,_,by rw[ei];exact G0,by rw[c2];exact G1,G2,?_,meet1⟩
    have:=(pL (m-1) (by nofun)).2
    rwa[show m-1+1=m by nofun]at this
   ·have cm:m<=i:=by nofun
    have G0:=atH i hi
    rw[xf (by nofun)]at G0
    rw[xf (by nofun),show i+1-m=(i-m)+1 by nofun]at G1
    have s:=(pU (i-m) (by nofun)).2
    by_cases c3:i+2<=m+k
    ·have G2:=G2 c3
     rw[xf (by nofun),show i+2-m=(i-m)+2 by nofun]at G2
     exact⟨_,_,_,G0,G1,G2,s,fun _=>tU (i-m) (by nofun)⟩
    ·have z:i+2=m+k+1:=by nofun
     have zi:i-m=k-1:=by nofun
     have G2':(L.dropLast++U.dropLast)[(i+2) % (m+k)]?=some (gL 1):=by
      rw[z,Nat.add_mod_left,vU (by nofun),atH 1 (by nofun)]
      by_cases m2:1<m
      ·rw[xc m2]
      ·have:m=1:=by nofun
       rw[xf m2,this,Nat.sub_self,<- top,this]
     refine⟨_,_,_,G0,G1,G2',s,fun hn=>?_⟩
     have:=meet2 hn
     rw[zi,show k-1+1=k by nofun]
     exact this
 ·rw[len]at hn
  have m1':m=1:=by nofun
  have k1':k=1:=by nofun
  subst m1' k1'
  refine⟨gL 0,gL 1,?_,fun p hp=>?_,fun p hp=>?_⟩
  ·have x0:=atH 0 (by nofun)
   have x1:=atH 1 (by nofun)
   rw[xc (by nofun)]at x0
   rw[xf (by nofun),Nat.sub_self,<- top]at x1
   generalize L.dropLast++U.dropLast=H at len x0 x1
   match H,len,x0,x1 with
   | [a,b],_,x0,x1=>simp at x0 x1;rw[x0,x1]
  ·have a1:=(pL 0 (by nofun)).2 p hp
   have a2:=(pU 0 (by nofun)).2 p hp
   rw[vO,bot,<- top,back]at a2
   rw[vO]at a1
   lia
  ·exact wl.lst (gL 1) (by rw[hm];exact hL 1 (by nofun)) p hp
theorem zSd {p:Pt}:hull [p]=[p]:=by
 unfold hull
 rw[xc (by rfl)]
end
end DP
namespace DP
open DS
noncomputable section
open Classical
noncomputable def wth (s p:Pt):Int:=s.1*p.1+s.2*p.2
noncomputable def mn:List Int->Int
 | []=>0
 | [x]=>x
 | x::y::r=>min x (mn (y::r))
theorem zP9:∀{l:List Int},l≠[]->mn l∈l
 | [x],_=>by simp[mn]
 | x::y::r,_=>by
  have:=zP9 (l:=y::r) (by simp)
  rw[mn]
  rcases uh x (mn (y::r))with h|h
  ·rw[Int.min_eq_left h];simp
  ·rw[Int.min_eq_right h];exact xW _ this
theorem zVv:∀{l:List Int}{x:Int},x∈l->mn l<=x
 | [y],x,h=>by simp[mn]at *;lia
 | y::z::r,x,h=>by
  rw[mn]
  rcases xm.mp h with e|e
  ·rw[e];exact Int.min_le_left _ _
  ·exact Int.le_trans (Int.min_le_right _ _) (zVv e)
theorem zVw {l:List Int}{v:Int}(h:v∈l) (h':∀x∈l,v<=x):mn l=v:=Int.le_antisymm (zVv h) (h' _ (zP9 fun z=>by rw[z]at h;cases h))
noncomputable def mw (s:Pt) (H:List Pt):Int:=mn (H.map (wth s))
theorem zP6 {s p:Pt}{H:List Pt}(h:p∈H):mw s H<=wth s p:=zVv (xk.mpr ⟨p,h,rfl⟩)
theorem zMy {s:Pt}{H:List Pt}(h:H≠[]):∃p∈H,mw s H=wth s p:=by
 obtain⟨p,hp,e⟩:=xk.mp (zP9 (l:=H.map (wth s)) (by simpa using h))
 exact⟨p,hp,e.symm⟩
noncomputable def nbs (H:List Pt):List (Pt × Pt):=H.zip (H.drop 1++H.take 1)
noncomputable def wys (H:List Pt):List Pt:=(nbs H).map fun p=>(p.2.1-p.1.1,p.2.2-p.1.2)
noncomputable def ups (H:List Pt):List Pt:=(wys H).map fun w=>(-w.2,w.1)
noncomputable def inw (H:List Pt):List Pt:=if H.length=1 then [(1,0),(0,1),(-1,0),(0,-1)]else if H.length=2 then ups H++wys H else ups H
noncomputable def Wi (H:List Pt) (q:Pt):Prop:=∀s∈inw H,mw s H<=wth s q
theorem zNj {a b p:Pt}:wth (-(b.2-a.2),b.1-a.1) p-wth (-(b.2-a.2),b.1-a.1) a=crs a b p:=by unfold wth crs;grind
theorem zTh {H:List Pt}(h1:1<=H.length) {k:Nat}(hk:k<H.length):(nbs H)[k]?=some (H[k],H[(k+1) % H.length]'(vP _ (by nofun))):=by
 unfold nbs
 rw[List.getElem?_zip_eq_some]
 refine⟨xp hk,?_⟩
 by_cases z:k+1<H.length
 ·rw[xX (by rw[vY];lia),List.getElem?_drop,show 1+k=k+1 by nofun,xp z]
  simp only[vU z]
 ·have e:k+1=H.length:=by nofun
  rw[vq (by rw[vY];lia),vY,ub (by nofun),show k-(H.length-1)=0 by nofun,xp (by nofun)]
  simp only[e,Nat.mod_self]
theorem zI9 {H:List Pt}(h1:1<=H.length):(nbs H).length=H.length:=by
 unfold nbs;rw[uY,vD,vY,vH];lia
theorem zXb {H:List Pt}{s:Pt}(h1:1<=H.length) (h:s∈ups H):∃k a b,k<H.length/\H[k]?=some a/\H[(k+1) % H.length]?=some b/\s=(-(b.2-a.2),b.1-a.1):=by
 unfold ups wys at h
 obtain⟨w,hw,rfl⟩:=xk.mp h
 obtain⟨p,hp,rfl⟩:=xk.mp hw
 obtain⟨k,hk,e⟩:=vw.mp hp
 rw[zI9 h1]at hk
 have:=zTh h1 hk
 rw[xp (by rw[zI9 h1];exact hk),e]at this
 have e2:=xE this
 exact⟨k,_,_,hk,xp hk,xp (vP _ (by nofun)),by rw[e2]⟩
theorem zU6 {H:List Pt}{a b:Pt}{k:Nat}(h1:1<=H.length) (hk:k<H.length) (ha:H[k]?=some a) (hb:H[(k+1) % H.length]?=some b):(-(b.2-a.2),b.1-a.1)∈ups H:=by
 unfold ups wys
 refine xk.mpr ⟨(b.1-a.1,b.2-a.2),xk.mpr ⟨(a,b),?_,rfl⟩,rfl⟩
 have:=zTh h1 hk
 rw[xp hk]at ha
 rw[xp (vP _ (by nofun))]at hb
 rw[xE ha,xE hb]at this
 exact xU this
noncomputable def HU (cs H:List Pt):Prop:=(∃p,H=[p]/\cs≠[]/\∀c∈cs,c=p)\/∃rs,Hull rs H/\∀p,p∈rs <-> p∈cs
theorem HU.ne {cs H:List Pt}(h:HU cs H):1<=H.length:=by
 rcases h with⟨p,rfl,_⟩|⟨rs,h,_⟩
 ·simp
 ·have:=h.len;lia
theorem HU.sub {cs H:List Pt}(h:HU cs H):∀p∈H,p∈cs:=by
 rcases h with⟨p,rfl,ne,h⟩|⟨rs,h,e⟩
 ·intro q hq
  rw[xV.mp hq]
  obtain⟨c,r,rfl⟩:=List.exists_cons_of_ne_nil ne
  have:=h c (.head _)
  rw[<- this];exact .head _
 ·exact fun p hp=>(e p).mp (h.sub p hp)
theorem HU.nd {cs H:List Pt}(h:HU cs H):H.Nodup:=by
 rcases h with⟨p,rfl,_⟩|⟨rs,h,e⟩
 ·simp
 ·exact h.nd
theorem HU.len {cs H:List Pt}(h:HU cs H):H.length<=cs.length:=zLj h.nd h.sub
theorem along {a b c:Pt}(h1:plt a b) (h2:c=a\/plt a c) (e:crs a b c=0):0<=(b.1-a.1)*(c.1-a.1)+(b.2-a.2)*(c.2-a.2):=by
 rcases h2 with rfl|h2
 ·simp
 ·unfold plt at h1 h2
  unfold crs at e
  rcases h1 with h1|⟨h1,h1'⟩
  ·have p1:0<=(b.1-a.1)*(c.1-a.1):=xT (by nofun) (by nofun)
   have p2:0<=(b.2-a.2)*(b.2-a.2)*(c.1-a.1):=xT (by rcases uh 0 (b.2-a.2)with q|q;exact xT q q;exact yA q q) (by nofun)
   have p3:(b.1-a.1)*((b.2-a.2)*(c.2-a.2))=(b.2-a.2)*(b.2-a.2)*(c.1-a.1):=by grind
   have p4:0<=(b.2-a.2)*(c.2-a.2):=zH8 (a:=b.1-a.1) (by nofun) (by rw[p3];exact p2)
   lia
  ·have z:b.1-a.1=0:=by nofun
   rw[z]at e ⊢
   have:c.1-a.1=0:=by
    rcases Int.mul_eq_zero.mp (show(b.2-a.2)*(c.1-a.1)=0 by omega)with q|q
    ·lia
    ·exact q
   have p4:0<=(b.2-a.2)*(c.2-a.2):=xT (by nofun) (by nofun)
   lia
theorem along' {a b c:Pt}(h1:plt a b) (h2:c=b\/plt c b) (e:crs a b c=0):0<=(b.1-a.1)*(b.1-c.1)+(b.2-a.2)*(b.2-c.2):=by
 have:=along (a:=ng b) (b:=ng a) (c:=ng c) (plt_ng.mpr h1) (h2.imp (fun z=>by rw[z]) fun z=>plt_ng.mpr z) (by rw[zM7,back];unfold crs at *;grind)
 unfold ng at this
 dsimp only at this
 grind
theorem HU.wi {cs H:List Pt}(h:HU cs H) {c:Pt}(hc:c∈cs):Wi H c:=by
 intro s hs
 rcases h with⟨p,rfl,ne,h⟩|⟨rs,h,e⟩
 ·rw[h c hc];exact zP6 (.head _)
 ·have l2:=h.len
  have one:H.length≠1:=by nofun
  have ups:s∈ups H->mw s H<=wth s c:=fun hs=>by
   obtain⟨k,a,b,hk,ha,hb,rfl⟩:=zXb (by nofun) hs
   obtain⟨a',b',_,ha',hb',_,sd,_⟩:=h.side k hk
   rw[ha]at ha';cases ha'
   rw[hb]at hb';cases hb'
   have:=sd c ((e c).mpr hc)
   rw[<- zNj]at this
   have:=zP6 (s:=(-(b.2-a.2),b.1-a.1)) (xU ha)
   lia
  unfold inw at hs
  rw[xf one]at hs
  by_cases t:H.length=2
  ·rw[xc t]at hs
   rcases vc.mp hs with hs|hs
   ·exact ups hs
   ·obtain⟨a,b,rfl,l0,lb⟩:=h.lin t
    obtain⟨a',ea,la⟩:=h.fst
    cases ea
    have hc':=(e c).mpr hc
    have hb':b∈rs:=h.sub b (.tail _ (.head _))
    have lt:plt a b:=by
     rcases la b hb' with q|q
     ·exfalso
      have:=h.nd
      rw[q]at this
      simp at this
     ·exact q
    have q1:=along lt (la c hc') (l0 c hc')
    have q2:=along' lt (lb c hc') (l0 c hc')
    have m1:=zP6 (s:=s) (p:=a) (H:=[a,b]) (.head _)
    have m2:=zP6 (s:=s) (p:=b) (H:=[a,b]) (.tail _ (.head _))
    unfold wys nbs at hs
    simp at hs
    rcases hs with rfl|rfl
    ·unfold wth at m1 ⊢
     dsimp only at m1 ⊢
     grind
    ·unfold wth at m2 ⊢
     dsimp only at m2 ⊢
     grind
  ·rw[xf t]at hs
   exact ups hs
theorem HU.mw {cs H:List Pt}(h:HU cs H) {s:Pt}(hs:s∈inw H):mw s cs=mw s H:=by
 have ne:H≠[]:=fun z=>by have:=h.ne;rw[z]at this;simp at this
 obtain⟨p,hp,e⟩:=zMy (s:=s) ne
 rw[e]
 refine zVw (xk.mpr ⟨p,h.sub p hp,rfl⟩) fun x hx=>?_
 obtain⟨c,hc,rfl⟩:=xk.mp hx
 rw[<- e]
 exact h.wi hc s hs
noncomputable def CC (H:List Pt) (q:Pt):Prop:=∃(t1 t2 t3:Int) (a b c:Pt),0<=t1/\0<=t2/\0<=t3/\0<t1+t2+t3/\a∈H/\b∈H/\c∈H /\
 t1*a.1+t2*b.1+t3*c.1=(t1+t2+t3)*q.1/\t1*a.2+t2*b.2+t3*c.2=(t1+t2+t3)*q.2
end
end DP
namespace DP
open DS
noncomputable section
open Classical
theorem ivt {g:Nat->Int}:∀(m i:Nat),0<g i->g (i+m)<=0->∃j,i<=j/\j<i+m/\0<g j/\g (j+1)<=0
 | 0,i,h,h'=>by rw[Nat.add_zero]at h';lia
 | m+1,i,h,h'=>by
  by_cases z:g (i+1)<=0
  ·exact⟨i,xh _,by nofun,h,z⟩
  ·obtain⟨j,a,b,c⟩:=ivt (g:=g) m (i+1) (by nofun) (by rw[show i+1+m=i+(m+1) by nofun];exact h')
   exact⟨j,by nofun,by nofun,c⟩
theorem bary1 {a b c q:Pt}:crs b c q*a.1+crs c a q*b.1+crs a b q*c.1=(crs b c q+crs c a q+crs a b q)*q.1:=by unfold crs;grind
theorem bary2 {a b c q:Pt}:crs b c q*a.2+crs c a q*b.2+crs a b q*c.2=(crs b c q+crs c a q+crs a b q)*q.2:=by unfold crs;grind
theorem fan {H:List Pt}{q:Pt}(hn:3<=H.length) (sd:∀k a b,k<H.length->H[k]?=some a->H[(k+1) % H.length]?=some b->0<=crs a b q)
  (tn:∀k a b c,k<H.length->H[k]?=some a->H[(k+1) % H.length]?=some b->H[(k+2) % H.length]?=some c->0<crs a b c):CC H q:=by
 have at_:∀i (h:i<H.length),H[i]?=some (H[i]'h):=fun i h=>xp h
 generalize hg:(fun i=>if h:i<H.length then crs (H[0]'(by nofun)) (H[i]'h) q else 0)=g
 have gi:∀i (h:i<H.length),g i=crs (H[0]'(by nofun)) (H[i]'h) q:=fun i h=>by rw[<- hg];simp[h]
 have s01:=sd 0 _ _ (by nofun) (at_ 0 (by nofun)) (by rw[vU (by nofun)];exact at_ 1 (by nofun))
 have sl0:=sd (H.length-1) _ _ (by nofun) (at_ (H.length-1) (by nofun)) (by rw[show H.length-1+1=H.length by nofun,Nat.mod_self];exact at_ 0 (by nofun))
 have gl:g (1+(H.length-2))<=0:=by
  rw[gi _ (by nofun),back]
  simp only[show 1+(H.length-2)=H.length-1 by nofun]
  lia
 rcases Int.lt_or_eq_of_le s01 with p|z
 ·obtain⟨j,j1,j2,g1,g2⟩:=ivt (g:=g) (H.length-2) 1 (by rw[gi 1 (by nofun)];exact p) gl
  have hj:j+1<H.length:=by nofun
  rw[gi _ (by nofun)]at g1
  rw[gi _ hj]at g2
  have s:=sd j _ _ (by nofun) (at_ j (by nofun)) (by rw[vU hj];exact at_ (j+1) hj)
  rw[back]at g2
  exact⟨_,_,_,_,_,_,s,by nofun,xR g1,by nofun,v5 _,v5 _,v5 _,bary1,bary2⟩
 ·have t0:=tn (H.length-1) _ _ _ (by nofun) (at_ (H.length-1) (by nofun)) (by rw[show H.length-1+1=H.length by nofun,Nat.mod_self];exact at_ 0 (by nofun)) (by rw[show H.length-1+2=1+H.length by nofun,Nat.add_mod_right,vU (by nofun)];exact at_ 1 (by nofun))
  have t1:=tn 0 _ _ _ (by nofun) (at_ 0 (by nofun)) (by rw[vU (by nofun)];exact at_ 1 (by nofun)) (by rw[vU (by nofun)];exact at_ 2 (by nofun))
  have s12:=sd 1 _ _ (by nofun) (at_ 1 (by nofun)) (by rw[vU (by nofun)];exact at_ 2 (by nofun))
  have m0:H[0]'(by nofun)∈H:=v5 _
  have m1:H[1]'(by nofun)∈H:=v5 _
  generalize H[0]'(by nofun)=a at *
  generalize H[1]'(by nofun)=b at *
  generalize H[2]'(by nofun)=c at *
  generalize H[H.length-1]'(by nofun)=l at *
  have i1:crs l a b*(q.1-a.1)=crs l a q*(b.1-a.1):=by
   have:crs l a b*(q.1-a.1)-crs l a q*(b.1-a.1)=-(crs a b q)*(a.1-l.1):=by unfold crs;grind
   rw[<- z]at this
   omega
  have i2:crs l a b*(q.2-a.2)=crs l a q*(b.2-a.2):=by
   have:crs l a b*(q.2-a.2)-crs l a q*(b.2-a.2)=-(crs a b q)*(a.2-l.2):=by unfold crs;grind
   rw[<- z]at this
   omega
  have i3:crs a b c*(crs l a b-crs l a q)=crs l a b*crs b c q:=by
   have:crs a b c*(crs l a b-crs l a q)-crs l a b*crs b c q=((c.1-b.1)*(a.2-l.2)-(c.2-b.2)*(a.1-l.1))*crs a b q:=by unfold crs;grind
   rw[<- z]at this
   lia
  have n0:0<=crs l a b-crs l a q:=zH8 t1 (by rw[i3];exact xT (by nofun) s12)
  exact⟨crs l a b-crs l a q,crs l a q,0,a,b,b,n0,sl0,Int.le_refl _,by nofun,m0,m1,m1,by grind,by grind⟩
theorem HU.cc {cs H:List Pt}{q:Pt}(h:HU cs H) (w:Wi H q):CC H q:=by
 rcases h with⟨p,rfl,ne,h⟩|⟨rs,h,e⟩
 ·have w1:=w (1,0) (by simp[inw])
  have w2:=w (0,1) (by simp[inw])
  have w3:=w (-1,0) (by simp[inw])
  have w4:=w (0,-1) (by simp[inw])
  simp[DP.mw,mn,wth]at w1 w2 w3 w4
  exact⟨1,0,0,p,p,p,by nofun,by nofun,by nofun,by nofun,.head _,.head _,.head _,by nofun,by nofun⟩
 ·have l2:=h.len
  have sd:∀k a b,k<H.length->H[k]?=some a->H[(k+1) % H.length]?=some b->0<=crs a b q:=fun k a b hk ha hb=>by
   obtain⟨a',b',_,ha',hb',_,sd,_⟩:=h.side k hk
   rw[ha]at ha';cases ha'
   rw[hb]at hb';cases hb'
   have hs:=zU6 (by nofun) hk ha hb
   have:=w _ (show _∈inw H by
    unfold inw
    rw[xf (by nofun)]
    by_cases t:H.length=2
    ·rw[xc t];exact u6 _ hs
    ·rw[xf t];exact hs)
   obtain⟨p,hp,ep⟩:=zMy (s:=(-(b.2-a.2),b.1-a.1)) (H:=H) (fun z=>by rw[z]at l2;simp at l2)
   have:=sd p (h.sub p hp)
   rw[<- zNj]at this ⊢
   lia
  by_cases t:H.length=2
  ·obtain⟨a,b,rfl,l0,lb⟩:=h.lin t
   have lt:a≠b:=fun z=>by
    have:=h.nd
    rw[z]at this
    simp at this
   have s1:=sd 0 a b (by simp) rfl rfl
   have s2:=sd 1 b a (by simp) rfl (by simp)
   rw[back]at s2
   have z:crs a b q=0:=by nofun
   have w1:=w (b.1-a.1,b.2-a.2) (by simp[inw,wys,nbs])
   have w2:=w (a.1-b.1,a.2-b.2) (by simp[inw,wys,nbs])
   have dd:0<(b.1-a.1)*(b.1-a.1)+(b.2-a.2)*(b.2-a.2):=by
    have n1:0<=(b.1-a.1)*(b.1-a.1):=by rcases uh 0 (b.1-a.1)with q|q;exact xT q q;exact yA q q
    have n2:0<=(b.2-a.2)*(b.2-a.2):=by rcases uh 0 (b.2-a.2)with q|q;exact xT q q;exact yA q q
    rcases Int.lt_or_eq_of_le n1 with y|y
    ·lia
    ·rcases Int.lt_or_eq_of_le n2 with x|x
     ·lia
     ·exfalso
      have x1:=(Int.mul_eq_zero.mp y.symm).elim id id
      have x2:=(Int.mul_eq_zero.mp x.symm).elim id id
      exact lt (Prod.ext (by nofun) (by nofun))
   have v1:0<=(b.1-a.1)*(q.1-a.1)+(b.2-a.2)*(q.2-a.2):=by
    obtain⟨p,hp,ep⟩:=zMy (s:=(b.1-a.1,b.2-a.2)) (H:=[a,b]) (by simp)
    rw[ep]at w1
    unfold wth at w1
    simp at hp
    rcases hp with rfl|rfl <;> grind
   have v2:0<=(b.1-a.1)*(b.1-q.1)+(b.2-a.2)*(b.2-q.2):=by
    obtain⟨p,hp,ep⟩:=zMy (s:=(a.1-b.1,a.2-b.2)) (H:=[a,b]) (by simp)
    rw[ep]at w2
    unfold wth at w2
    simp at hp
    rcases hp with rfl|rfl <;> grind
   refine⟨_,_,0,a,b,b,v2,v1,Int.le_refl _,by grind,.head _,.tail _ (.head _),.tail _ (.head _),?_,?_⟩
   ·unfold crs at z;grind
   ·unfold crs at z;grind
  ·exact fan (by nofun) sd fun k a b c hk ha hb hc=>by
    obtain⟨a',b',c',ha',hb',hc',_,tn⟩:=h.side k hk
    rw[ha]at ha';cases ha'
    rw[hb]at hb';cases hb'
    rw[hc]at hc';cases hc'
    exact tn (by nofun)
end
end DP
namespace DP
open DS
noncomputable section
open Classical
noncomputable def scl (l:Int) (p:Pt):Pt:=(l*p.1,l*p.2)
theorem zKs {l:Int}{a b c:Pt}:crs (scl l a) (scl l b) (scl l c)=l*l*crs a b c:=by unfold crs scl;grind
theorem zOk {l:Int}(hl:0<l) {a b:Pt}:plt (scl l a) (scl l b) <-> plt a b:=by
 unfold plt scl
 dsimp only
 have m:∀x y:Int,l*x<l*y <-> x<y:=fun x y=>⟨fun h=>Int.lt_of_mul_lt_mul_left h (xR hl),fun h=>Int.mul_lt_mul_of_pos_left h hl⟩
 have e:∀x y:Int,l*x=l*y <-> x=y:=fun x y=>⟨fun h=>Int.eq_of_mul_eq_mul_left (by nofun) h,fun h=>by rw[h]⟩
 rw[m,m,e]
theorem zUq {l:Int}(hl:0<l) {a b:Pt}(h:scl l a=scl l b):a=b:=by
 unfold scl at h
 injection h with h1 h2
 exact Prod.ext (Int.eq_of_mul_eq_mul_left (by nofun) h1) (Int.eq_of_mul_eq_mul_left (by nofun) h2)
theorem sq_pos {l:Int}(hl:0<l):0<l*l:=vA hl hl
theorem Hull.scl {l:Int}(hl:0<l) {rs H:List Pt}(h:Hull rs H):Hull (rs.map (scl l)) (H.map (scl l)) where
 len:=by rw[xn];exact h.len
 fst:=by
  obtain⟨a,ea,la⟩:=h.fst
  refine⟨DP.scl l a,by rw[xK,ea];rfl,fun p hp=>?_⟩
  obtain⟨q,hq,rfl⟩:=xk.mp hp
  rcases la q hq with z|z
  ·exact .inl (by rw[z])
  ·exact .inr ((zOk hl).mpr z)
 sub:=fun p hp=>by
  obtain⟨q,hq,rfl⟩:=xk.mp hp
  exact xk.mpr ⟨q,h.sub q hq,rfl⟩
 nd:=yj.mpr (h.nd.imp fun h z=>h (zUq hl z))
 side:=fun k hk=>by
  rw[xn]at hk ⊢
  obtain⟨a,b,c,ea,eb,ec,sd,tn⟩:=h.side k hk
  refine⟨DP.scl l a,DP.scl l b,DP.scl l c,by rw[xK,ea];rfl,by rw[xK,eb];rfl,by rw[xK,ec];rfl,fun p hp=>?_,fun h2=>?_⟩
  ·obtain⟨q,hq,rfl⟩:=xk.mp hp
   rw[zKs]
   exact xT (xR (sq_pos hl)) (sd q hq)
  ·rw[zKs]
   exact vA (sq_pos hl) (tn h2)
 lin:=fun e=>by
  rw[xn]at e
  obtain⟨a,b,rfl,l0,lb⟩:=h.lin e
  refine⟨DP.scl l a,DP.scl l b,rfl,fun p hp=>?_,fun p hp=>?_⟩
  ·obtain⟨q,hq,rfl⟩:=xk.mp hp
   rw[zKs,l0 q hq];simp
  ·obtain⟨q,hq,rfl⟩:=xk.mp hp
   rcases lb q hq with z|z
   ·exact .inl (by rw[z])
   ·exact .inr ((zOk hl).mpr z)
theorem HU.scl {l:Int}(hl:0<l) {cs H:List Pt}(h:HU cs H):HU (cs.map (scl l)) (H.map (scl l)):=by
 rcases h with⟨p,rfl,ne,h⟩|⟨rs,h,e⟩
 ·refine .inl ⟨DP.scl l p,rfl,by simpa using ne,fun c hc=>?_⟩
  obtain⟨q,hq,rfl⟩:=xk.mp hc
  rw[h q hq]
 ·refine .inr ⟨rs.map (DP.scl l),h.scl hl,fun p=>?_⟩
  constructor
  ·intro hp
   obtain⟨q,hq,rfl⟩:=xk.mp hp
   exact xk.mpr ⟨q,(e q).mp hq,rfl⟩
  ·intro hp
   obtain⟨q,hq,rfl⟩:=xk.mp hp
   exact xk.mpr ⟨q,(e q).mpr hq,rfl⟩
noncomputable def WiL (H:List Pt) (x y l:Int):Prop:=∀s∈inw H,mw s H*l<=s.1*x+s.2*y
theorem zNi {l:Int}{H:List Pt}:wys (H.map (scl l))=(wys H).map (scl l):=by
 unfold wys nbs
 rw[<- List.map_drop,<- List.map_take,<- vR,List.zip_map,xG,xG]
 apply uW
 rintro⟨a,b⟩ _
 show(l*b.1-l*a.1,l*b.2-l*a.2)=(l*(b.1-a.1),l*(b.2-a.2))
 rw[Int.mul_sub,Int.mul_sub]
theorem zU5 {l:Int}{H:List Pt}:ups (H.map (scl l))=(ups H).map (scl l):=by
 unfold ups
 rw[zNi,xG,xG]
 apply uW
 rintro w _
 show(-(l*w.2),l*w.1)=(l*-w.2,l*w.1)
 rw[Int.mul_neg]
theorem zYz {l m:Int}{s:Pt}{H:List Pt}(hl:0<l) (hm:0<m) (hn:H≠[]):mw (scl m s) (H.map (scl l))=m*l*mw s H:=by
 obtain⟨p,hp,e⟩:=zMy (s:=s) hn
 rw[e]
 have ml:0<=m*l:=xR (vA hm hl)
 have w:∀q,wth (scl m s) (scl l q)=m*l*wth s q:=fun q=>by unfold wth scl;grind
 refine zVw (xk.mpr ⟨scl l p,xk.mpr ⟨p,hp,rfl⟩,w p⟩) fun x hx=>?_
 obtain⟨q,hq,rfl⟩:=xk.mp hx
 obtain⟨r,hr,rfl⟩:=xk.mp hq
 rw[w]
 exact ui (by rw[<- e];exact zP6 hr) ml
theorem zUp {s:Pt}:scl 1 s=s:=by unfold scl;simp
theorem WiL.scl {l x y:Int}(hl:0<l) {H:List Pt}(h1:1<=H.length) (h:WiL H x y l):Wi (H.map (scl l)) (x,y):=by
 have hn:H≠[]:=fun z=>by rw[z]at h1;simp at h1
 intro s hs
 have two:∀s∈inw H,H.length≠1->mw (DP.scl l s) (H.map (DP.scl l))<=wth (DP.scl l s) (x,y):=fun s hs n=>by
  rw[zYz hl hl hn]
  have:=h s hs
  have e:wth (DP.scl l s) (x,y)=l*(s.1*x+s.2*y):=by unfold wth DP.scl;grind
  rw[e,Int.mul_assoc]
  exact ui (by rw[Int.mul_comm];exact this) (xR hl)
 unfold inw at hs
 rw[xn]at hs
 by_cases o:H.length=1
 ·rw[xc o]at hs
  have hs':s∈inw H:=by unfold inw;rw[xc o];exact hs
  have:=h s hs'
  have e:=zYz (s:=s) hl (show(0:Int)<1 by decide) hn
  rw[zUp]at e
  rw[e,Int.one_mul,Int.mul_comm]
  exact this
 ·rw[xf o,zU5,zNi,<- vR]at hs
  have hs':∃t∈inw H,s=DP.scl l t:=by
   unfold inw
   rw[xf o]
   by_cases t:H.length=2
   ·rw[xc t]at hs ⊢
    obtain⟨t,ht,rfl⟩:=xk.mp hs
    exact⟨t,ht,rfl⟩
   ·rw[xf t]at hs ⊢
    obtain⟨t,ht,rfl⟩:=xk.mp hs
    exact⟨t,ht,rfl⟩
  obtain⟨t,ht,rfl⟩:=hs'
  exact two t ht o
noncomputable def CL (cs:List Pt) (x y l:Int):Prop:=∃(t1 t2 t3:Int) (a b c:Pt),0<=t1/\0<=t2/\0<=t3/\0<t1+t2+t3/\a∈cs/\b∈cs/\c∈cs /\
 l*(t1*a.1+t2*b.1+t3*c.1)=(t1+t2+t3)*x/\l*(t1*a.2+t2*b.2+t3*c.2)=(t1+t2+t3)*y
theorem HU.cl {cs H:List Pt}{x y l:Int}(hl:0<l) (h:HU cs H) (w:WiL H x y l):CL cs x y l:=by
 obtain⟨t1,t2,t3,a,b,c,h1,h2,h3,hp,ha,hb,hc,e1,e2⟩:=(h.scl hl).cc (w.scl hl h.ne)
 obtain⟨a',ma,rfl⟩:=xk.mp ha
 obtain⟨b',mb,rfl⟩:=xk.mp hb
 obtain⟨c',mc,rfl⟩:=xk.mp hc
 refine⟨t1,t2,t3,a',b',c',h1,h2,h3,hp,h.sub _ ma,h.sub _ mb,h.sub _ mc,?_,?_⟩
 ·rw[<- e1];unfold DP.scl;grind
 ·rw[<- e2];unfold DP.scl;grind
theorem CL.wil {cs H:List Pt}{x y l:Int}(hl:0<l) (h:CL cs x y l) (hu:HU cs H):WiL H x y l:=fun s hs=>by
 obtain⟨t1,t2,t3,a,b,c,h1,h2,h3,hp,ha,hb,hc,e1,e2⟩:=h
 have p1:0<=t1*(wth s a-mw s H):=xT h1 (by have:=hu.wi ha s hs;lia)
 have p2:0<=t2*(wth s b-mw s H):=xT h2 (by have:=hu.wi hb s hs;lia)
 have p3:0<=t3*(wth s c-mw s H):=xT h3 (by have:=hu.wi hc s hs;lia)
 have e:l*(t1*(wth s a-mw s H)+t2*(wth s b-mw s H)+t3*(wth s c-mw s H))=(t1+t2+t3)*(s.1*x+s.2*y-mw s H*l):=by
  unfold wth
  have f1:s.1*(l*(t1*a.1+t2*b.1+t3*c.1))=s.1*((t1+t2+t3)*x):=by rw[e1]
  have f2:s.2*(l*(t1*a.2+t2*b.2+t3*c.2))=s.2*((t1+t2+t3)*y):=by rw[e2]
  grind
 have:=zH8 hp (by rw[<- e];exact xT (xR hl) (by nofun))
 lia
theorem HU.iff {cs H:List Pt}{x y l:Int}(hl:0<l) (h:HU cs H):WiL H x y l <-> CL cs x y l:=⟨h.cl hl,fun c=>c.wil hl h⟩
theorem CL.mono {cs ds:List Pt}{x y l:Int}(h:CL cs x y l) (s:∀p∈cs,p∈ds):CL ds x y l:=by
 obtain⟨t1,t2,t3,a,b,c,h1,h2,h3,hp,ha,hb,hc,e⟩:=h
 exact⟨t1,t2,t3,a,b,c,h1,h2,h3,hp,s _ ha,s _ hb,s _ hc,e⟩
end
end DP
namespace DP
open DS
noncomputable section
open Classical
noncomputable def crq (a b:Pt) (x y l:Int):Int:=(b.1-a.1)*(y-a.2*l)-(b.2-a.2)*(x-a.1*l)
noncomputable def Bx (a b c x:Int):Prop:=(a<=x\/b<=x\/c<=x)/\(x<=a\/x<=b\/x<=c)
noncomputable def IsIn (a b c:Pt) (x y l:Int):Prop:=
 ¬ ((crq a b x y l<0\/crq b c x y l<0\/crq c a x y l<0)/\(0<crq a b x y l\/0<crq b c x y l\/0<crq c a x y l)) /\
 ((crq a b x y l≠0\/crq b c x y l≠0\/crq c a x y l≠0)\/(Bx (a.1*l) (b.1*l) (c.1*l) x/\Bx (a.2*l) (b.2*l) (c.2*l) y))
theorem zSs {a:Pt}{x y l:Int}:crq a a x y l=0:=by unfold crq;grind
theorem zIh {a b:Pt}{x y l:Int}:crq b a x y l=- crq a b x y l:=by unfold crq;grind
theorem bq1 {a b c:Pt}{x y l:Int}:l*(crq b c x y l*a.1+crq c a x y l*b.1+crq a b x y l*c.1)=(crq b c x y l+crq c a x y l+crq a b x y l)*x:=by unfold crq;grind
theorem bq2 {a b c:Pt}{x y l:Int}:l*(crq b c x y l*a.2+crq c a x y l*b.2+crq a b x y l*c.2)=(crq b c x y l+crq c a x y l+crq a b x y l)*y:=by unfold crq;grind
theorem segx {M:List Pt}{P R:Pt}{x y l:Int}(hl:0<l) (hP:P∈M) (hR:R∈M) (z:crq P R x y l=0) (h1:P.1*l<=x) (h2:x<=R.1*l) (h3:P.1<R.1):CL M x y l:=by
 refine⟨R.1*l-x,x-P.1*l,0,P,R,R,by nofun,by nofun,Int.le_refl _,?_,hP,hR,hR,by grind,?_⟩
 ·have:0<(R.1-P.1)*l:=vA (by nofun) hl
  grind
 ·unfold crq at z;grind
theorem segy {M:List Pt}{P R:Pt}{x y l:Int}(hl:0<l) (hP:P∈M) (hR:R∈M) (e1:x=P.1*l) (e2:P.1=R.1) (h1:P.2*l<=y) (h2:y<=R.2*l) (h3:P.2<R.2):CL M x y l:=by
 refine⟨R.2*l-y,y-P.2*l,0,P,R,R,by nofun,by nofun,Int.le_refl _,?_,hP,hR,hR,?_,by grind⟩
 ·have:0<(R.2-P.2)*l:=vA (by nofun) hl
  grind
 ·rw[<- e2,e1];grind
theorem zJ4 {l a b:Int}(hl:0<l) (h:a*l<=b*l):a<=b:=Int.le_of_mul_le_mul_right h hl
theorem IsIn.cl {a b c:Pt}{x y l:Int}(hl:0<l) (h:IsIn a b c x y l):CL [a,b,c] x y l:=by
 have ma:a∈[a,b,c]:=.head _
 have mb:b∈[a,b,c]:=.tail _ (.head _)
 have mc:c∈[a,b,c]:=.tail _ (.tail _ (.head _))
 obtain⟨nm,h⟩:=h
 by_cases z:crq a b x y l=0/\crq b c x y l=0/\crq c a x y l=0
 ·have bx:=h.resolve_left fun w=>by nofun
  have Z:∀u∈[a,b,c],∀v∈[a,b,c],crq u v x y l=0:=fun u hu v hv=>by
   have r1:crq b a x y l=0:=by rw[zIh];lia
   have r2:crq c b x y l=0:=by rw[zIh];lia
   have r3:crq a c x y l=0:=by rw[zIh];lia
   simp only[xm,xP,xQ]at hu hv
   rcases hu with rfl|rfl|rfl <;> rcases hv with rfl|rfl|rfl <;> first|exact zSs|exact z.1|exact z.2.1|exact z.2.2|assumption
  obtain⟨⟨bx1,bx2⟩,⟨by1,by2⟩⟩:=bx
  obtain⟨P,hP,p1⟩:∃P∈[a,b,c],P.1*l<=x:=by rcases bx1 with q|q|q;exact⟨a,ma,q⟩;exact⟨b,mb,q⟩;exact⟨c,mc,q⟩
  obtain⟨R,hR,r1⟩:∃R∈[a,b,c],x<=R.1*l:=by rcases bx2 with q|q|q;exact⟨a,ma,q⟩;exact⟨b,mb,q⟩;exact⟨c,mc,q⟩
  by_cases lt:P.1<R.1
  ·exact segx hl hP hR (Z P hP R hR) p1 r1 lt
  ·have le:=zJ4 hl (Int.le_trans p1 r1)
   have e:P.1=R.1:=by nofun
   have ex:x=P.1*l:=Int.le_antisymm (by rw[e];exact r1) p1
   by_cases al:∀u∈[a,b,c],u.1=P.1
   ·obtain⟨P',hP',p2⟩:∃P∈[a,b,c],P.2*l<=y:=by rcases by1 with q|q|q;exact⟨a,ma,q⟩;exact⟨b,mb,q⟩;exact⟨c,mc,q⟩
    obtain⟨R',hR',r2⟩:∃R∈[a,b,c],y<=R.2*l:=by rcases by2 with q|q|q;exact⟨a,ma,q⟩;exact⟨b,mb,q⟩;exact⟨c,mc,q⟩
    have eP:=al P' hP'
    have eR:=al R' hR'
    by_cases lt':P'.2<R'.2
    ·exact segy hl hP' hR' (by rw[eP];exact ex) (by rw[eP,eR]) p2 r2 lt'
    ·have le':=zJ4 hl (Int.le_trans p2 r2)
     have e':P'.2=R'.2:=by nofun
     have ey:y=P'.2*l:=Int.le_antisymm (by rw[e'];exact r2) p2
     exact⟨1,0,0,P',P',P',by nofun,by nofun,by nofun,by nofun,hP',hP',hP',by rw[ex,eP];grind,by rw[ey];grind⟩
   ·have:∃u∈[a,b,c],u.1≠P.1:=vN fun n=>al fun u hu=>vN fun q=>n ⟨u,hu,q⟩
    obtain⟨u,hu,ne⟩:=this
    rcases Int.lt_or_gt_of_ne ne with q|q
    ·exact segx hl hu hP (Z u hu P hP) (by rw[ex];exact vV (xR q) (xR hl)) (by nofun) q
    ·exact segx hl hP hu (Z P hP u hu) p1 (by rw[ex];exact vV (xR q) (xR hl)) q
 ·by_cases ng:crq a b x y l<0\/crq b c x y l<0\/crq c a x y l<0
  ·have np:=fun w=>nm ⟨ng,w⟩
   exact⟨-crq b c x y l,-crq c a x y l,-crq a b x y l,a,b,c,by nofun,by nofun,by nofun,by nofun,ma,mb,mc,by have:=bq1 (a:=a) (b:=b) (c:=c) (x:=x) (y:=y) (l:=l);grind,by have:=bq2 (a:=a) (b:=b) (c:=c) (x:=x) (y:=y) (l:=l);grind⟩
  ·exact⟨crq b c x y l,crq c a x y l,crq a b x y l,a,b,c,by nofun,by nofun,by nofun,by nofun,ma,mb,mc,bq1,bq2⟩
structure Mean (t1 t2 t3:Int) (a b c:Pt) (x y l:Int):Prop where
 h1:0<=t1
 h2:0<=t2
 h3:0<=t3
 p:0<t1+t2+t3
 e1:l*(t1*a.1+t2*b.1+t3*c.1)=(t1+t2+t3)*x
 e2:l*(t1*a.2+t2*b.2+t3*c.2)=(t1+t2+t3)*y
theorem zTx {t1 t2 t3 a b c x l:Int}(h1:0<=t1) (h2:0<=t2) (h3:0<=t3) (p:0<t1+t2+t3) (e:l*(t1*a+t2*b+t3*c)=(t1+t2+t3)*x):Bx (a*l) (b*l) (c*l) x:=by
 have e':t1*(a*l-x)+t2*(b*l-x)+t3*(c*l-x)=0:=by grind
 constructor
 ·refine vN fun n=>?_
  have q1:t1<=t1*(a*l-x):=by have:=ui (show 1<=a*l-x by nofun) h1;lia
  have q2:t2<=t2*(b*l-x):=by have:=ui (show 1<=b*l-x by nofun) h2;lia
  have q3:t3<=t3*(c*l-x):=by have:=ui (show 1<=c*l-x by nofun) h3;lia
  lia
 ·refine vN fun n=>?_
  have q1:t1*(a*l-x)<=t1*(-1):=ui (by nofun) h1
  have q2:t2*(b*l-x)<=t2*(-1):=ui (by nofun) h2
  have q3:t3*(c*l-x)<=t3*(-1):=ui (by nofun) h3
  lia
theorem Mean.isin {t1 t2 t3:Int}{a b c:Pt}{x y l:Int}(hl:0<l) (m:Mean t1 t2 t3 a b c x y l):IsIn a b c x y l:=by
 obtain⟨h1,h2,h3,p,e1,e2⟩:=m
 have k1:(t1+t2+t3)*crq b c x y l=t1*(l*crs a b c):=by
  have:(t1+t2+t3)*crq b c x y l=(c.1-b.1)*((t1+t2+t3)*y)-(c.2-b.2)*((t1+t2+t3)*x)-(t1+t2+t3)*l*((c.1-b.1)*b.2-(c.2-b.2)*b.1):=by unfold crq;grind
  rw[this,<- e1,<- e2];unfold crs;grind
 have k2:(t1+t2+t3)*crq c a x y l=t2*(l*crs a b c):=by
  have:(t1+t2+t3)*crq c a x y l=(a.1-c.1)*((t1+t2+t3)*y)-(a.2-c.2)*((t1+t2+t3)*x)-(t1+t2+t3)*l*((a.1-c.1)*c.2-(a.2-c.2)*c.1):=by unfold crq;grind
  rw[this,<- e1,<- e2];unfold crs;grind
 have k3:(t1+t2+t3)*crq a b x y l=t3*(l*crs a b c):=by
  have:(t1+t2+t3)*crq a b x y l=(b.1-a.1)*((t1+t2+t3)*y)-(b.2-a.2)*((t1+t2+t3)*x)-(t1+t2+t3)*l*((b.1-a.1)*a.2-(b.2-a.2)*a.1):=by unfold crq;grind
  rw[this,<- e1,<- e2];unfold crs;grind
 refine⟨fun hq1=>?_,?_⟩
 ·obtain⟨n,q⟩:=hq1
  rcases uh 0 (l*crs a b c)with s|s
  ·have n1:=zH8 p (by rw[k1];exact xT h1 s)
   have n2:=zH8 p (by rw[k2];exact xT h2 s)
   have n3:=zH8 p (by rw[k3];exact xT h3 s)
   lia
  ·have n1:=zH8 (b:=-crq b c x y l) p (by rw[Int.mul_neg,k1];have:=u3 h1 s;lia)
   have n2:=zH8 (b:=-crq c a x y l) p (by rw[Int.mul_neg,k2];have:=u3 h2 s;lia)
   have n3:=zH8 (b:=-crq a b x y l) p (by rw[Int.mul_neg,k3];have:=u3 h3 s;lia)
   lia
 ·exact .inr ⟨zTx h1 h2 h3 p e1,zTx h1 h2 h3 p e2⟩
end
end DP
namespace DP
open DS
noncomputable section
open Classical
noncomputable def Tri (L:List Pt) (x y l:Int):Prop:=∃(i j k:Nat) (a b c:Pt),i<j/\j<k/\L[i]?=some a/\L[j]?=some b/\L[k]?=some c/\IsIn c b a x y l
theorem other (u w:Nat):∃d,d<3/\d≠u/\d≠w:=by
 by_cases h0:0≠u/\0≠w
 ·exact⟨0,by decide,h0⟩
 ·by_cases h1:1≠u/\1≠w
  ·exact⟨1,by decide,h1⟩
  ·exact⟨2,by decide,by nofun,by nofun⟩
theorem cover {n a b c:Nat}(hn:3<=n) (ha:a<n) (hb:b<n) (hc:c<n):∃p q r,p<n/\q<n/\r<n/\p≠q/\q≠r/\p≠r/\(a=p\/a=q\/a=r)/\(b=p\/b=q\/b=r)/\(c=p\/c=q\/c=r):=by
 by_cases ab:a=b
 ·by_cases ac:a=c
  ·obtain⟨d,d1,d2,_⟩:=other a a
   obtain⟨e,e1,e2,e3⟩:=other a d
   exact⟨a,d,e,ha,by nofun,by nofun,xo d2,xo e3,xo e2,.inl rfl,.inl ab.symm,.inl ac.symm⟩
  ·obtain⟨d,d1,d2,d3⟩:=other a c
   exact⟨a,c,d,ha,hc,by nofun,ac,xo d3,xo d2,.inl rfl,.inl ab.symm,.inr (.inl rfl)⟩
 ·by_cases cc:c=a\/c=b
  ·obtain⟨d,d1,d2,d3⟩:=other a b
   exact⟨a,b,d,ha,hb,by nofun,ab,xo d3,xo d2,.inl rfl,.inr (.inl rfl),by rcases cc with z|z;exact .inl z;exact .inr (.inl z)⟩
  ·exact⟨a,b,c,ha,hb,hc,ab,by nofun,by nofun,.inl rfl,.inr (.inl rfl),.inr (.inr rfl)⟩
theorem sort3 {p q r:Nat}(h1:p≠q) (h2:q≠r) (h3:p≠r):∃i j k,i<j/\j<k/\(i=p\/i=q\/i=r)/\(j=p\/j=q\/j=r)/\(k=p\/k=q\/k=r)/\∀z,(z=p\/z=q\/z=r)->(z=i\/z=j\/z=k):=by
 rcases Nat.lt_or_gt_of_ne h1 with a|a <;> rcases Nat.lt_or_gt_of_ne h2 with b|b <;> rcases Nat.lt_or_gt_of_ne h3 with c|c
 ·exact⟨p,q,r,a,b,by nofun,by nofun,by nofun,fun z h=>by nofun⟩
 ·lia
 ·exact⟨p,r,q,c,b,by nofun,by nofun,by nofun,fun z h=>by nofun⟩
 ·exact⟨r,p,q,c,a,by nofun,by nofun,by nofun,fun z h=>by nofun⟩
 ·exact⟨q,p,r,a,c,by nofun,by nofun,by nofun,fun z h=>by nofun⟩
 ·exact⟨q,r,p,b,c,by nofun,by nofun,by nofun,fun z h=>by nofun⟩
 ·lia
 ·exact⟨r,q,p,b,a,by nofun,by nofun,by nofun,fun z h=>by nofun⟩
noncomputable def wt (a z:Nat) (t:Int):Int:=if a=z then t else 0
theorem zHr {a z:Nat}{t:Int}(h:0<=t):0<=wt a z t:=by unfold wt;split <;> lia
theorem zEk {a i j k:Nat}{t:Int}(h1:i<j) (h2:j<k) (h:a=i\/a=j\/a=k) (f:Nat->Int):wt a k t*f k+wt a j t*f j+wt a i t*f i=t*f a:=by
 unfold wt
 rcases h with rfl|rfl|rfl
 ·rw[xf (by nofun),xf (by nofun),xc rfl];lia
 ·rw[xf (by nofun),xc rfl,xf (by nofun)];lia
 ·rw[xc rfl,xf (by nofun),xf (by nofun)];lia
theorem zU9 {L:List Pt}{x y l:Int}(hn:3<=L.length) (hl:0<l):Tri L x y l <-> CL L x y l:=by
 constructor
 ·rintro⟨i,j,k,a,b,c,_,_,ea,eb,ec,h⟩
  refine(h.cl hl).mono fun p hp=>?_
  simp only[xm,xP,xQ]at hp
  rcases hp with rfl|rfl|rfl
  ·exact xU ec
  ·exact xU eb
  ·exact xU ea
 ·rintro⟨t1,t2,t3,a,b,c,h1,h2,h3,hp,ha,hb,hc,e1,e2⟩
  obtain⟨ia,la,rfl⟩:=vw.mp ha
  obtain⟨ib,lb,rfl⟩:=vw.mp hb
  obtain⟨ic,lc,rfl⟩:=vw.mp hc
  obtain⟨p,q,r,lp,lq,lr,n1,n2,n3,ma,mb,mc⟩:=cover hn la lb lc
  obtain⟨i,j,k,ij,jk,mi,mj,mk,cv⟩:=sort3 n1 n2 n3
  have li:i<L.length:=by rcases mi with z|z|z <;> (rw[z];assumption)
  have lj:j<L.length:=by rcases mj with z|z|z <;> (rw[z];assumption)
  have lk:k<L.length:=by rcases mk with z|z|z <;> (rw[z];assumption)
  have ca:=cv ia ma
  have cb:=cv ib mb
  have cc:=cv ic mc
  have g:∀z (hz:z<L.length),L.getD z (0,0)=L[z]:=fun z hz=>by rw[vL,xp hz];rfl
  refine⟨i,j,k,L[i],L[j],L[k],ij,jk,xp li,xp lj,xp lk,?_⟩
  have s0:=zEk (t:=t1) ij jk ca (fun _=>1)
  have s1:=zEk (t:=t2) ij jk cb (fun _=>1)
  have s2:=zEk (t:=t3) ij jk cc (fun _=>1)
  have u0:=zEk (t:=t1) ij jk ca (fun z=>(L.getD z (0,0)).1)
  have u1:=zEk (t:=t2) ij jk cb (fun z=>(L.getD z (0,0)).1)
  have u2:=zEk (t:=t3) ij jk cc (fun z=>(L.getD z (0,0)).1)
  have v0:=zEk (t:=t1) ij jk ca (fun z=>(L.getD z (0,0)).2)
  have v1:=zEk (t:=t2) ij jk cb (fun z=>(L.getD z (0,0)).2)
  have v2:=zEk (t:=t3) ij jk cc (fun z=>(L.getD z (0,0)).2)
  rw[g _ li,g _ lj,g _ lk,g _ la]at u0 v0
  rw[g _ li,g _ lj,g _ lk,g _ lb]at u1 v1
  rw[g _ li,g _ lj,g _ lk,g _ lc]at u2 v2
  have sm:(wt ia k t1+wt ib k t2+wt ic k t3)+(wt ia j t1+wt ib j t2+wt ic j t3)+(wt ia i t1+wt ib i t2+wt ic i t3)=t1+t2+t3:=by nofun
  refine Mean.isin (t1:=wt ia k t1+wt ib k t2+wt ic k t3) (t2:=wt ia j t1+wt ib j t2+wt ic j t3) (t3:=wt ia i t1+wt ib i t2+wt ic i t3) hl ⟨?_,?_,?_,by nofun,?_,?_⟩
  ·have:=zHr (a:=ia) (z:=k) h1;have:=zHr (a:=ib) (z:=k) h2;have:=zHr (a:=ic) (z:=k) h3;lia
  ·have:=zHr (a:=ia) (z:=j) h1;have:=zHr (a:=ib) (z:=j) h2;have:=zHr (a:=ic) (z:=j) h3;lia
  ·have:=zHr (a:=ia) (z:=i) h1;have:=zHr (a:=ib) (z:=i) h2;have:=zHr (a:=ic) (z:=i) h3;lia
  ·rw[sm,<- e1,<- u0,<- u1,<- u2];congr 1;grind
  ·rw[sm,<- e2,<- v0,<- v1,<- v2];congr 1;grind
end
end DP
namespace DP
open DS
noncomputable section
open Classical
theorem zWu:zBh=zIk 1 4 zQl:=rfl
theorem zWq:zA8=zB0 2 5 zX2:=rfl
theorem zUi {S:Store}{x:Int}:zEw [.int x] S=.ok (.int (sgn x)) S:=by
 refine zAl rfl ?_ rfl
 have g:∀S,gtD S (.int x) (.int 0)=some (.bl (decide (0<x))):=fun _=>rfl
 have l:∀S,ltI S (.int x) (.int 0)=some (.bl (decide (x<0))):=fun _=>rfl
 unfold zGu sgn
 by_cases h1:0<x
 ·simp_arith [g,h1,decide_true]
 ·by_cases h2:x<0
  ·simp_arith [g,h1,l,h2,negD,decide_true,decide_false]
  ·simp_arith [g,h1,l,h2,decide_false]
theorem zRb {S:Store}{c:Pt}:zE6 [cel c] S=.ok (.tup [.tup [.int c.1,.int 1],.tup [.int c.2,.int 1]]) S:=by
 refine zAl rfl ?_ rfl
 unfold zFf cel
 simp_arith [xi]
theorem zUj {S:Store}{a b c:Pt}(ha:BP a) (hb:BP b) (hc:BP c):zCw [cel a,cel b,cel c] S=.ok (.int (sgn (crs a b c))) S:=by
 have one:BB 2 1:=BB.lit rfl
 have zX3:zEx [cel a,cel b,.tup [.tup [.int c.1,.int 1],.tup [.int c.2,.int 1]]] S=.ok (.int (sgn (crs a b c))) S:=by
  refine zAl rfl ?_ rfl
  have e:(b.1-a.1)*((c.2-a.2*1)*1)-(b.2-a.2)*((c.1-a.1*1)*1)=crs a b c:=by unfold crs;grind
  have m1:=(hc.1.sub (ha.1.mul one))
  have m2:=(hc.2.sub (ha.2.mul one))
  unfold zGw cel
  simp_arith [zAp ha.1 one,zAp ha.2 one,zAp m1 one,zAp m2 one,zAp (hb.1.sub ha.1) (m2.mul one),zAp (hb.2.sub ha.2) (m1.mul one),e,zUi]
 refine zAl rfl ?_ rfl
 unfold zGv
 simp_arith [zRb,zX3]
noncomputable abbrev cLt:TM:=(tAnd (tB (eOp gtD (eCB lenB (zA0 (eVar 1) aNil)) (eC (.int 1)))) (tB (eOp leD (zAc zCw (zA0 (eOp ixD (eVar 1) (eUn negD (eC (.int 2)))) (zA0 (eOp ixD (eVar 1) (eUn negD (eC (.int 1)))) (zA0 (eVar 2) aNil)))) (eC (.int 0)))))
noncomputable abbrev wLt:SM:=(zDh (eMt "list" popM (eVar 1) aNil))
theorem zKy {S0:Store}{env:Env}{c:Pt}(h1:env[1]?=some (some (.ref S0.length))) (h2:env[2]?=some (some (cel c))) (hc:BP c):∀(st:List Pt),(∀p∈st,BP p)->∃k,zAr cLt wLt k env (S0++[.lst (st.reverse.map cel)])=.nx env (S0++[.lst ((popS st c).reverse.map cel)])
 | st,hb=>by
  generalize hS:S0++[D.lst (st.reverse.map cel)]=S
  have el:look S (.ref S0.length)=some (.lst (st.reverse.map cel)):=by rw[<- hS];simp[look]
  have v1:∀S,eVar 1 env S=.ok (.ref S0.length) S:=fun S=>by unfold eVar;rw[h1]
  have v2:∀S,eVar 2 env S=.ok (cel c) S:=fun S=>by unfold eVar;rw[h2]
  have c1:tB (eOp gtD (eCB lenB (zA0 (eVar 1) aNil)) (eC (.int 1))) env S=.ok (decide ((1:Int)<(st.reverse.map cel).length)) S:=by simp only[tB,eOp,eC,eCB,zA0,aNil,v1,Rs.bind_ok,zA7,lenB,el,gtD,asB]
  have no:(∀a b r,st=b::a::r->0<crs a b c)->cLt env S=.ok false S->∃k,zAr cLt wLt k env S=.nx env (S0++[.lst ((popS st c).reverse.map cel)]):=fun h hcl=>by
   refine⟨1,?_⟩
   have:popS st c=st:=by
    match st,h with
    | [],_=>rfl
    | [_],_=>rfl
    | b::a::r,h=>rw[popS,xf (by have:=h a b r rfl;lia)]
   rw[zAr,hcl,Rs.then_ok,xf (by decide),this,hS]
  match st,hb,hS,el,c1,no with
  | [],_,_,_,c1,no=>exact no (fun a b r e=>nomatch e) (by unfold cLt tAnd;rw[c1];rfl)
  | [_],_,_,_,c1,no=>exact no (fun a b r e=>nomatch e) (by unfold cLt tAnd;rw[c1];rfl)
  | b::a::r,hb,hS,el,c1,no=>
   have ba:=hb a (.tail _ (.head _))
   have bb:=hb b (.head _)
   have len:((b::a::r).reverse.map cel).length=r.length+2:=by simp
   have i2:ixD S (.ref S0.length) (.int (-2))=some (cel a):=by
    unfold ixD
    rw[el]
    refine atM (k:=r.length) (by rw[len];lia) (by simp)
   have i1:ixD S (.ref S0.length) (.int (-1))=some (cel b):=by
    unfold ixD
    rw[el]
    refine atM (k:=r.length+1) (by rw[len];lia) (by simp)
   have n2:∀S (x:Int),negD S (.int x)=some (.int (-x)):=fun _ _=>rfl
   have le:∀S (x:Int),leD S (.int x) (.int 0)=some (.bl (decide (x<=0))):=fun _ _=>rfl
   have c2:tB (eOp leD (zAc zCw (zA0 (eOp ixD (eVar 1) (eUn negD (eC (.int 2)))) (zA0 (eOp ixD (eVar 1) (eUn negD (eC (.int 1)))) (zA0 (eVar 2) aNil)))) (eC (.int 0))) env S=.ok (decide (crs a b c<=0)) S:=by
    simp only[tB,eOp,eC,zAc,eUn,zA0,aNil,v1,v2,Rs.bind_ok,n2,zA7,i2,i1,zUj ba bb hc,le,asB,zWy]
   have cc:cLt env S=.ok (decide (crs a b c<=0)) S:=by
    unfold cLt tAnd
    rw[c1,Rs.bind_ok,xw (by rw[len];lia),xc rfl,c2]
   by_cases q:crs a b c<=0
   ·obtain⟨k,hk⟩:=zKy h1 h2 hc (a::r) fun p hp=>hb p (.tail _ hp)
    refine⟨k+1,?_⟩
    have ty:tyD S (.ref S0.length)=some "list":=by unfold tyD;rw[el]
    have pm:popM S (.ref S0.length) []=some (cel b,S0++[.lst ((a::r).reverse.map cel)]):=by
     have:S[S0.length]?=some (.lst ((b::a::r).reverse.map cel)):=el
     unfold popM
     simp only[this]
     rw[<- hS]
     simp
    have w:wLt env S=.nx env (S0++[.lst ((a::r).reverse.map cel)]):=by
     simp only[wLt,zDh,eMt,aNil,v1,Rs.bind_ok,ty,xi,pm,zCe,Rs.then_ok]
    rw[zAr,cc,xw q,Rs.then_ok,xc rfl,w]
    dsimp only
    rw[hk,show popS (b::a::r) c=popS (a::r) c by rw[popS,xc q]]
   ·exact no (fun a' b' r' e=>by cases e;lia) (by rw[cc,xA q])
noncomputable abbrev bLt:SM:=(sSeq (zBo cLt wLt) (zDh (eMt "list" zB7 (eVar 1) (zA0 (eVar 2) aNil))))
theorem zUc {S0:Store}{x:D}{c:Pt}(st:List Pt) (hc:BP c) (hb:∀p∈st,BP p) (hl:st.length<most):bLt [some x,some (.ref S0.length),some (cel c)] (S0++[.lst (st.reverse.map cel)])=.nx [some x,some (.ref S0.length),some (cel c)] (S0++[.lst ((c::popS st c).reverse.map cel)]):=by
 obtain⟨k,hk⟩:=zKy (S0:=S0) (env:=[some x,some (.ref S0.length),some (cel c)]) (c:=c) rfl rfl hc st hb
 have w:zBo cLt wLt [some x,some (.ref S0.length),some (cel c)] (S0++[.lst (st.reverse.map cel)])=.nx [some x,some (.ref S0.length),some (cel c)] (S0++[.lst ((popS st c).reverse.map cel)]):=by
  rw[zDg (n:=k) (by rw[hk];exact fun z=>nomatch z),hk]
 have g:(S0++[D.lst ((popS st c).reverse.map cel)])[S0.length]?=some (.lst ((popS st c).reverse.map cel)):=by simp
 have ty:tyD (S0++[.lst ((popS st c).reverse.map cel)]) (.ref S0.length)=some "list":=by unfold tyD;rw[show look (S0++[.lst ((popS st c).reverse.map cel)]) (.ref S0.length)=_ from g]
 have ap:zB7 (S0++[.lst ((popS st c).reverse.map cel)]) (.ref S0.length) [cel c]=some (.non,S0++[.lst ((c::popS st c).reverse.map cel)]):=by
  unfold zB7
  simp only[g]
  rw[xc (by have:=(zFz (c:=c) st).2;simp;lia)]
  simp
 unfold bLt
 rw[sSeq,w]
 simp only[zDh,eMt,eVar,zA0,aNil,xB,xN,Rs.bind_ok,ty,xi,ap,zCe,Rs.then_ok]
theorem zTp {S0:Store}{x:D}:∀(cs st:List Pt) (o:Option D),(∀p∈cs,BP p)->(∀p∈st,BP p)->st.length+cs.length<=most->∃o',forL [] (gName 2) bLt (cs.map cel) [some x,some (.ref S0.length),o] (S0++[.lst (st.reverse.map cel)])=.nx [some x,some (.ref S0.length),o'] (S0++[.lst ((cs.foldl (fun st c=>c::popS st c) st).reverse.map cel)])
 | [],st,o,_,_,_=>⟨o,by rw[vE,forL,xc zAq];rfl⟩
 | c::cs,st,o,h1,h2,hl=>by
  have hl':st.length+(cs.length+1)<=most:=hl
  have sb:=zFz (c:=c) st
  obtain⟨o',e⟩:=zTp (S0:=S0) (x:=x) cs (c::popS st c) (some (cel c)) (fun p hp=>h1 p (.tail _ hp)) (fun p hp=>by
   rcases xm.mp hp with rfl|hp
   ·exact h1 _ (.head _)
   ·exact h2 p (sb.1 p hp)) (by simp only[xY];have:=sb.2;lia)
  refine⟨o',?_⟩
  rw[xt,forL,xc zAq]
  have g:gName 2 (S0++[.lst (st.reverse.map cel)]) (cel c) [some x,some (.ref S0.length),o]=some [some x,some (.ref S0.length),some (cel c)]:=rfl
  rw[g]
  dsimp only
  rw[zUc st (h1 c (.head _)) h2 (by nofun)]
  exact e
theorem zPg {S:Store}{cs:List Pt}(hb:∀p∈cs,BP p) (hl:cs.length<=most):zBk [.lst (cs.map cel)] S=.ok (.lst ((lturns cs).map cel)) S:=by
 obtain⟨o',e⟩:=zTp (S0:=S) (x:=.lst (cs.map cel)) cs [] none hb (fun p hp=>nomatch hp) (by simpa using hl)
 have b:zC6 [some (.lst (cs.map cel)),none,none] S=.rt (.ref S.length) (S++[.lst ((lturns cs).map cel)]):=by
  have w:zDd (S++[D.lst []]) (.lst (cs.map cel))=some ⟨cs.map cel,[]⟩:=rfl
  have e:forL [] (gName 2) bLt (cs.map cel) [some (.lst (cs.map cel)),some (.ref S.length),none] (S++[.lst []])=.nx [some (.lst (cs.map cel)),some (.ref S.length),o'] (S++[.lst ((lturns cs).map cel)]):=e
  unfold zC6
  simp only[sSeq,sSet,eNew,eLst,aNil,Rs.bind_ok,Rs.then_ok,v8,vQ,sFor,iVal,eVar,xB,xN,w,zA7]
  rw[e]
  simp only[sRet,eVar,xB,xN,Rs.then_ok]
 unfold zBk zB0
 rw[xc (show [D.lst (cs.map cel)].length=1 from rfl),show zC6 ([D.lst (cs.map cel)].map some++List.replicate (3-1) none) S=_ from b]
 dsimp only
 unfold fin
 have k:keeps S.length S (S++[.lst ((lturns cs).map cel)]):=by
  have:∀(n:Nat) (S T:Store),keeps n S (S++T):=fun n S T=>by
   induction S with
   | nil=>trivial
   | cons a r ih=>exact⟨.inl rfl,ih⟩
  exact this _ _ _
 have g:(S++[D.lst ((lturns cs).map cel)])[S.length]?=some (.lst ((lturns cs).map cel)):=by simp
 rw[xc k,xf (show ¬ (D.ref S.length).low S.length=true by simp[D.low])]
 simp only[g]
 rw[xc (show(D.lst ((lturns cs).map cel)).low S.length=true from zDi _)]
 simp
theorem zWe {S:Store}{cs rs:List Pt}(hb:∀p∈cs,BP p) (hl:cs.length<=61) (hr:srtP cs=rs) (hm:∀p,p∈rs <-> p∈cs) (hn:rs.length<=cs.length):zBq [.tup (cs.map cel)] S=.ok (.tup ((hull rs).map cel)) S:=by
 have br:∀p∈rs,BP p:=fun p hp=>hb p ((hm p).mp hp)
 have m299:600<=most:=by decide
 have ss:ssC S (.tup (cs.map cel))=some (.lst (rs.map cel)):=by
  show(match zK5 (cs.map ptD)with|some cs=>if cs.length<=63 then some (D.lst ((srtP cs).map ptD))else none|none=>none)=_
  rw[zIv]
  dsimp only
  rw[xc (by nofun),hr]
  rfl
 have l1:=zPg (S:=S) br (by nofun)
 have l2:=zPg (S:=S) (cs:=rs.reverse) (fun p hp=>br p (vT.mp hp)) (by rw[uz];lia)
 have rv:revL S (.lst (rs.map cel))=some (.lst (rs.reverse.map cel)):=by show some (D.lst (rs.map cel).reverse)=_;rw[List.map_reverse]
 have s1:∀l:List Pt,slD S (.lst (l.map cel)) none (some (-1))=some (.lst (l.dropLast.map cel)):=fun l=>by show some (D.lst (cutL (l.map cel) none (some (-1))))=_;rw[zSq,List.map_dropLast]
 have ad:addD S (.lst ((lturns rs).dropLast.map cel)) (.lst ((lturns rs.reverse).dropLast.map cel))=some (.lst (((lturns rs).dropLast++(lturns rs.reverse).dropLast).map cel)):=by
  show(if _ then some (D.lst (_++_))else none)=_
  have a1:=zTi (cs:=rs)
  have a2:=zTi (cs:=rs.reverse)
  rw[xc (by simp;rw[uz]at a2;lia),vR]
 have tp:∀l:List Pt,zEm S [.lst (l.map cel)]=some (.tup (l.map cel)):=fun _=>rfl
 have tr:truth S (.lst (((lturns rs).dropLast++(lturns rs.reverse).dropLast).map cel))=some (decide ((lturns rs).dropLast++(lturns rs.reverse).dropLast≠[])):=by
  show some (decide (((lturns rs).dropLast++(lturns rs.reverse).dropLast).map cel≠[]))=_
  congr 1
  apply vS.mpr
  rw[ne_eq,ne_eq,List.map_eq_nil_iff]
 have n1:negD S (.int 1)=some (.int (-1)):=rfl
 refine zAl rfl ?_ (zDi _)
 show zF1 [some (.tup (cs.map cel)),none,none,none] S=_
 unfold zF1 hull
 by_cases q:(lturns rs).dropLast++(lturns rs.reverse).dropLast=[]
 ·rw[xc q]
  simp only[sSeq,sSet,sRet,eUn,zAc,zA0,aNil,eCB,eOrV,eOp,eSl,pNo,pYes,eC,asI,eVar,xB,xN,v8,vQ,Rs.bind_ok,Rs.then_ok,zA7,vz,ss,l1,l2,rv,s1,ad,tr,n1,tp,xA (not_not_intro q),x9,xO]
 ·rw[xf q]
  simp only[sSeq,sSet,sRet,eUn,zAc,zA0,aNil,eCB,eOrV,eOp,eSl,pNo,pYes,eC,asI,eVar,xB,xN,v8,vQ,Rs.bind_ok,Rs.then_ok,zA7,vz,ss,l1,l2,rv,s1,ad,tr,n1,tp,xw q,xi]
noncomputable abbrev frc (x l:Int):D:=.tup [.int x,.int l]
noncomputable abbrev cGd:TM:=tTru (eVar 1)
noncomputable abbrev wGd:SM:=(sSeq (sSet 2 (eOp modD (eVar 0) (eVar 1))) (sSeq (sSet 0 (eVar 1)) (sSet 1 (eVar 2))))
theorem zKz {S:Store}:∀(n:Nat) (u v:Int) (o:Option D),0<=u->0<=v->v.toNat<=n->(0<u\/0<v)->∃k g o',zAr cGd wGd k [some (.int u),some (.int v),o] S=.nx [some (.int g),some (.int 0),o'] S/\0<g/\g ∣ u/\g ∣ v
 | n,u,v,o,h0,h1,hn,hp=>by
  have c:cGd [some (.int u),some (.int v),o] S=.ok (decide (v≠0)) S:=rfl
  by_cases q:0<v
  ·match n,hn with
   | 0,hn=>lia
   | n+1,hn=>
    have w:wGd [some (.int u),some (.int v),o] S=.nx [some (.int v),some (.int (u % v)),some (.int (u % v))] S:=by
     unfold wGd
     simp_arith [zBy q]
    have r0:=vy u (show v≠0 by nofun)
    have r1:=vx u q
    obtain⟨k,g,o',e,g0,g1,g2⟩:=zKz (S:=S) n v (u % v) (some (.int (u % v))) h1 r0 (by nofun) (.inl q)
    refine⟨k+1,g,o',?_,g0,?_,g1⟩
    ·rw[zAr,c,xw (by nofun),Rs.then_ok,xc rfl,w]
     exact e
    ·have e0:u=v*(u / v)+u % v:=(Int.mul_ediv_add_emod u v).symm
     rw[e0]
     exact Int.dvd_add (Int.dvd_trans g1 (Int.dvd_mul_right v _)) g2
  ·have v0:v=0:=by nofun
   subst v0
   refine⟨1,u,o,?_,by nofun,Int.dvd_refl u,Int.dvd_zero u⟩
   rw[zAr,c,xA (by nofun),Rs.then_ok,xf (by decide)]
theorem zZo {S:Store}{X L:Int}(h1:0<L):∃g,zBe [.int X,.int L] S=.ok (.int g) S/\0<g/\g ∣ X/\g ∣ L:=by
 have ab:absB S [.int X]=some (.int (if X<0 then -X else X)):=rfl
 have ab':absB S [.int L]=some (.int L):=by show some (D.int (if L<0 then -L else L))=_;rw[xf (by nofun)]
 generalize hu:(if X<0 then -X else X)=u at ab
 have u0:0<=u:=by rw[<- hu];split <;> lia
 obtain⟨k,g,o',e,g0,g1,g2⟩:=zKz (S:=S) L.toNat u L none u0 (by nofun) (xh _) (.inr h1)
 have w:zBo cGd wGd [some (.int u),some (.int L),none] S=_:=(zDg (n:=k) (by rw[e];exact fun z=>nomatch z)).trans e
 have gX:g ∣ X:=by
  rw[<- hu]at g1
  split at g1
  ·exact(Int.dvd_neg).mp g1
  ·exact g1
 refine⟨g,zAl rfl ?_ rfl,g0,gX,g2⟩
 show zBf [some (.int X),some (.int L),none] S=_
 unfold zBf
 have x1:sSet 0 (eCB absB (zA0 (eVar 0) aNil)) [some (.int X),some (.int L),none] S=.nx [some (.int u),some (.int L),none] S:=by simp_arith [ab]
 have x2:sSet 1 (eCB absB (zA0 (eVar 1) aNil)) [some (.int u),some (.int L),none] S=.nx [some (.int u),some (.int L),none] S:=by simp_arith [ab']
 rw[sSeq,x1]
 dsimp only
 rw[sSeq,x2]
 dsimp only
 rw[sSeq,show zBo (tTru (eVar 1)) (sSeq (sSet 2 (eOp modD (eVar 0) (eVar 1))) (sSeq (sSet 0 (eVar 1)) (sSet 1 (eVar 2)))) [some (.int u),some (.int L),none] S=_ from w]
 dsimp only
 simp_arith [xi]
theorem zPy {S:Store}{k:Nat}{X L:Int}(hX:BB k X) (hL:BB k L) (hk:k<=3000) (h1:0<L):∃g px pl,zCx [.int X,.int L] S=.ok (frc px pl) S/\0<g/\X=px*g/\L=pl*g/\BB k px/\BB k pl/\0<pl:=by
 obtain⟨g,e,g0,⟨px,hx⟩,⟨pl,hp⟩⟩:=zZo (S:=S) (X:=X) h1
 have ne:g≠0:=by nofun
 have f1:X.fdiv g=px:=by rw[hx,yz _ ne]
 have f2:L.fdiv g=pl:=by rw[hp,yz _ ne]
 have pl0:0<pl:=by
  rcases(show pl<=0\/0<pl by nofun)with z|z
  ·have:=u3 (xR g0) z;lia
  ·exact z
 have small:∀y z:Int,BB k y->y=g*z->BB k z:=fun y z hy e=>by
  have:z.natAbs<=y.natAbs:=by
   rw[e,Int.natAbs_mul]
   exact Nat.le_mul_of_pos_left _ (by nofun)
  unfold BB at *
  lia
 have gs:BB k g:=by
  have:g.natAbs<=L.natAbs:=by
   rw[hp,Int.natAbs_mul]
   exact Nat.le_mul_of_pos_right _ (by nofun)
  unfold BB at *
  lia
 have gm:sm g:=gs.sm (by nofun)
 have lt:ltI S (.int L) (.int 0)=some (.bl false):=by rw[zGd,xA (by nofun)]
 refine⟨g,px,pl,zAl rfl ?_ rfl,g0,by rw[hx,Int.mul_comm],by rw[hp,Int.mul_comm],small X px hX hx,small L pl hL hp,pl0⟩
 show zE9 [some (.int X),some (.int L),none] S=_
 unfold zE9
 simp_arith [e,lt,zIe g0 gm,f1,f2]
theorem zL4 {S:Store}{k:Nat}{a b c d:Int}(ha:BB k a) (hb:BB k b) (hc:BB k c) (hd:BB k d) (hk:k<=1000) (h1:0<b) (h2:0<d):∃p r g,zGk [frc a b,frc c d] S=.ok (frc p r) S/\0<r/\BB (k+k) p/\BB (k+k) r/\0<g/\a*c=p*g/\b*d=r*g:=by
 obtain⟨g,px,pl,e,g0,e1,e2,b1,b2,p0⟩:=zPy (S:=S) (ha.mul hc) (hb.mul hd) (by nofun) (vA h1 h2)
 refine⟨px,pl,g,zAl rfl ?_ rfl,p0,b1,b2,g0,e1,e2⟩
 unfold zKv
 simp_arith [zAp ha hc (by nofun) (by nofun),zAp hb hd (by nofun) (by nofun),e]
theorem zT0 {S:Store}{k:Nat}{a b c d:Int}(ha:BB k a) (hb:BB k b) (hc:BB k c) (hd:BB k d) (hk:k<=1000) (h1:0<b) (h2:0<d):∃p r g,zIf [frc a b,frc c d] S=.ok (frc p r) S/\0<r/\BB (k+k+1) p/\BB (k+k+1) r/\0<g/\a*d+c*b=p*g/\b*d=r*g:=by
 have b0:=(ha.mul hd).add (hc.mul hb)
 rw[Nat.max_self]at b0
 obtain⟨g,px,pl,e,g0,e1,e2,b1,b2,p0⟩:=zPy (S:=S) b0 ((hb.mul hd).mono (Nat.le_succ _)) (by nofun) (vA h1 h2)
 refine⟨px,pl,g,zAl rfl ?_ rfl,p0,b1,b2,g0,e1,e2⟩
 unfold zKw
 simp_arith [zAp ha hd (by nofun) (by nofun),zAp hc hb (by nofun) (by nofun),zAp hb hd (by nofun) (by nofun),e]
noncomputable def kc (b:Bool) (p:Pt):D:=if b then .ktup [.int p.1,.int p.2]else cel p
theorem zLu {S:Store}{b:Bool}{p:Pt}:ixD S (kc b p) (.int 0)=some (.int p.1):=by cases b <;> exact atL0
theorem zLt {S:Store}{b:Bool}{p:Pt}:ixD S (kc b p) (.int 1)=some (.int p.2):=by cases b <;> exact atL1
theorem zQu {S:Store}{b:Bool}{k:Nat}{s p:Pt}(h1:BB k s.1) (h2:BB k s.2) (h3:BB k p.1) (h4:BB k p.2) (hk:k<=1000):zFc [kc b s,cel p] S=.ok (.int (wth s p)) S:=by
 refine zAl rfl ?_ rfl
 show zIn [some (kc b s),some (cel p)] S=_
 unfold zIn
 simp_arith [zLu,zLt,zAp h1 h3 (by nofun) (by nofun),zAp h2 h4 (by nofun) (by nofun),wth]
theorem zX3 {S:Store}{b:Bool}{s:Pt}{x lx y ly n:Int}(h1:BB 200 s.1) (h2:BB 200 s.2) (hx:BB 200 x) (hlx:BB 200 lx) (hy:BB 200 y) (hly:BB 200 ly) (p1:0<lx) (p2:0<ly) (hn:BB 1000 n):
  ∃w,zCv [kc b s,.tup [frc x lx,frc y ly]] S=.ok w S/\zDl [w,.tup [.int n,.int 1]] S=.ok (.bl (decide (s.1*x*ly+s.2*y*lx<n*(lx*ly)))) S:=by
 have one:BB 200 1:=BB.lit rfl
 obtain⟨a,r,g,e1,r0,ba,br,g0,q1,q2⟩:=zL4 (S:=S) h1 one hx hlx (by decide) (by decide) p1
 obtain⟨a',r',g',e2,r0',ba',br',g0',q1',q2'⟩:=zL4 (S:=S) h2 one hy hly (by decide) (by decide) p2
 obtain⟨p,d,f,e3,d0,bp,bd,f0,q3,q4⟩:=zT0 (S:=S) ba br ba' br' (by decide) r0 r0'
 have key:(s.1*x*ly+s.2*y*lx)*d=p*(lx*ly):=by
  have f1:(s.1*x*ly+s.2*y*lx)=(a*r'+a'*r)*(g*g'):=by grind
  have f2:lx*ly=(r*r')*(g*g'):=by grind
  rw[f1,f2,q3,q4]
  grind
 have lp:0<lx*ly:=vA p1 p2
 have dec:decide (p<n*d)=decide (s.1*x*ly+s.2*y*lx<n*(lx*ly)):=by
  apply vS.mpr
  constructor
  ·intro z
   have:p*(lx*ly)<n*d*(lx*ly):=Int.mul_lt_mul_of_pos_right z lp
   rw[<- key]at this
   exact Int.lt_of_mul_lt_mul_right (a:=d) (by grind) (xR d0)
  ·intro z
   have:(s.1*x*ly+s.2*y*lx)*d<n*(lx*ly)*d:=Int.mul_lt_mul_of_pos_right z d0
   rw[key]at this
   exact Int.lt_of_mul_lt_mul_right (a:=lx*ly) (by grind) (xR lp)
 refine⟨frc p d,zAl rfl ?_ rfl,zAl rfl ?_ rfl⟩
 ·show zE7 [some (kc b s),some (.tup [frc x lx,frc y ly]),none,none] S=_
  unfold zE7
  simp_arith [zLu,zLt,e1,e2,e3]
 ·unfold zGx
  simp_arith [zAp bp one,zAp hn bd,zGd,Int.mul_one,dec]
theorem yAw {l:List D}(h:l≠[]):cutL l (some 1) none=l.drop 1:=by
 have e1:sIx l.length 0 (some 1)=1:=by
  show(if(1:Int)<0 then((1:Int)+(l.length:Int)).toNat else min (1:Int).toNat l.length)=1
  have:0<l.length:=List.length_pos_iff.mpr h
  rw[xf (by decide)];simp;lia
 have e2:sIx l.length l.length none=l.length:=rfl
 unfold cutL
 rw[e1,e2,List.take_of_length_le (by rw[vY];lia)]
theorem yA1 {l:List D}(h:l≠[]):cutL l none (some 1)=l.take 1:=by
 have e1:sIx l.length l.length (some 1)=1:=by
  show(if(1:Int)<0 then((1:Int)+(l.length:Int)).toNat else min (1:Int).toNat l.length)=1
  have:0<l.length:=List.length_pos_iff.mpr h
  rw[xf (by decide)];simp;lia
 unfold cutL
 rw[e1];rfl
noncomputable abbrev prD (p:Pt × Pt):D:=.tup [cel p.1,cel p.2]
theorem zYw {S:Store}{rs:List Pt}(h2:2<=rs.length) (h9:rs.length<=61):zC3 [.tup (rs.map cel)] S=.ok (.lst ((nbs rs).map prD)) S:=by
 have hn:rs.map cel≠[]:=fun z=>by
  have:=congrArg List.length z
  simp at this
  rw[this]at h2
  simp at h2
 have s1:slD S (.tup (rs.map cel)) (some 1) none=some (.tup ((rs.drop 1).map cel)):=by
  show some (D.tup (cutL (rs.map cel) (some 1) none))=_
  rw[yAw hn,List.map_drop]
 have s2:slD S (.tup (rs.map cel)) none (some 1)=some (.tup ((rs.take 1).map cel)):=by
  show some (D.tup (cutL (rs.map cel) none (some 1)))=_
  rw[yA1 hn,List.map_take]
 have ad:addD S (.tup ((rs.drop 1).map cel)) (.tup ((rs.take 1).map cel))=some (.tup ((rs.drop 1++rs.take 1).map cel)):=by
  have m9:100<=most:=by decide
  show(if(rs.drop 1).map cel≠[]/\((rs.drop 1).map cel).length+((rs.take 1).map cel).length<=most then some (D.tup ((rs.drop 1).map cel++(rs.take 1).map cel))else none)=_
  rw[xc ⟨fun z=>by
   have:=congrArg List.length z
   simp at this
   lia,by simp;lia⟩,vR]
 have zt:zipT S [.tup (rs.map cel),.tup ((rs.drop 1++rs.take 1).map cel)]=some (.lst ((nbs rs).map prD)):=by
  show some (D.lst (((rs.map cel).zip ((rs.drop 1++rs.take 1).map cel)).map fun p=>.tup [p.1,p.2]))=_
  rw[List.zip_map,xG]
  rfl
 have lowp:∀(l:List (Pt × Pt)),lowL S.length (l.map prD)=true:=fun l=>by
  induction l with
  | nil=>rfl
  | cons a l ih=>show(true && lowL S.length (l.map prD))=true;rw[ih];rfl
 refine zAl rfl ?_ (lowp _)
 show zCn [some (.tup (rs.map cel))] S=_
 unfold zCn
 simp only[sRet,eCB,zA0,aNil,eOp,eSl,pNo,pYes,eC,asI,eVar,xB,Rs.bind_ok,Rs.then_ok,zA7,vz,s1,s2,ad,zt]
theorem zTu {α:Type}{h f:α->D}{gd:List (Nat × D)}{g:GM}{e:EM}{S:Store}{I:Env->Prop}(hg:gOk S gd):∀(xs:List α) (k:Nat) (env:Env),I env->k+xs.length<=most->
  (∀a∈xs,∀env,I env->∃env',g S (h a) env=some env'/\I env'/\e env' S=.ok (f a) S)->zDc gd g tYes e k (xs.map h) env S=.ok (xs.map f) S
 | [],k,env,_,_,_=>by rw[vE,zDc,xc hg];rfl
 | a::xs,k,env,hi,hk,he=>by
  have hk':k+(xs.length+1)<=most:=hk
  obtain⟨env',e1,e2,e3⟩:=he a (.head _) env hi
  rw[xt,zDc,xc ⟨hg,by nofun⟩,e1]
  dsimp only
  rw[tYes,Rs.bind_ok,xc rfl,e3,Rs.bind_ok,zTu (I:=I) hg xs (k+1) env' e2 (by nofun) fun b hb=>he b (.tail _ hb),Rs.bind_ok]
  rfl
theorem zD1 {α:Type}{h f:α->D}{own:Nat}{ix:List Nat}{i:IM}{gd:List (Nat × D)}{g:GM}{e:EM}{S:Store}{env:Env}{xs:List α}(I:Env->Prop) (hi:i env S=.ok ⟨xs.map h,gd⟩ S) (hg:gOk S gd) (h0:I (compEnv own ix env)) (hk:xs.length<=most)
  (he:∀a∈xs,∀env,I env->∃env',g S (h a) env=some env'/\I env'/\e env' S=.ok (f a) S):zAt own ix i g tYes e env S=.ok (.lst (xs.map f)) S:=by
 rw[zAt,hi,Rs.bind_ok]
 rw[zTu (I:=I) hg xs 0 _ h0 (by nofun) he,Rs.bind_ok]
theorem zNp {H:List Pt}(hb:∀p∈H,BP p):∀w∈wys H,BB 110 w.1/\BB 110 w.2:=fun w hw=>by
 obtain⟨p,hp,rfl⟩:=xk.mp hw
 have:=List.of_mem_zip (show(p.1,p.2)∈H.zip (H.drop 1++H.take 1)from hp)
 have b1:=hb _ this.1
 have b2:BP p.2:=by
  rcases vc.mp this.2 with z|z
  ·exact hb _ (List.mem_of_mem_drop z)
  ·exact hb _ (List.mem_of_mem_take z)
 exact⟨(b2.1.sub b1.1).mono (by decide),(b2.2.sub b1.2).mono (by decide)⟩
theorem zLw {H:List Pt}(hb:∀p∈H,BP p):∀s∈inw H,BB 110 s.1/\BB 110 s.2:=fun s hs=>by
 have u:s∈ups H->BB 110 s.1/\BB 110 s.2:=fun hs=>by
  obtain⟨w,hw,rfl⟩:=xk.mp hs
  exact⟨(zNp hb w hw).2.neg,(zNp hb w hw).1⟩
 unfold inw at hs
 split at hs
 ·simp at hs
  rcases hs with rfl|rfl|rfl|rfl <;> exact⟨BB.lit rfl,BB.lit rfl⟩
 ·split at hs
  ·rcases vc.mp hs with z|z
   ·exact u z
   ·exact zNp hb s z
  ·exact u hs
theorem zTl {k:Nat}{b:Bool}:∀(l:List Pt),lowL k (l.map (kc b))=true
 | []=>rfl
 | p::l=>by
  show((kc b p).low k && lowL k (l.map (kc b)))=true
  rw[zTl l]
  cases b <;> rfl
theorem zIb {H:List Pt}(h1:1<=H.length):(inw H).length<=2*H.length+2/\inw H≠[]:=by
 have e:(wys H).length=H.length:=by unfold wys;rw[xn,zI9 h1]
 have e':(ups H).length=H.length:=by unfold ups;rw[xn,e]
 unfold inw
 split
 ·simp;lia
 ·split
  ·refine⟨by rw[vD,e,e'];lia,fun z=>?_⟩
   have:=congrArg List.length z
   rw[vD,e,e',vI]at this
   lia
  ·refine⟨by nofun,fun z=>?_⟩
   have:=congrArg List.length z
   rw[e',vI]at this
   lia
theorem zPr {S:Store}{H:List Pt}(hb:∀p∈H,BP p) (h1:1<=H.length) (hl:H.length<=61):zEy [.tup (H.map cel)] S=.ok (.lst ((inw H).map (kc (decide (H.length=1))))) S:=by
 refine zAl rfl ?_ (zTl _)
 show zG5 [some (.tup (H.map cel)),none,none] S=_
 unfold zG5
 by_cases one:H.length=1
 ·have e:eqI S (.int ((H.map cel).length:Int)) (.int 1)=some (.bl true):=by rw[zDm,xw (by rw[xn,one];rfl)]
  have l:∀l,zJ3 S [.ktup l]=some (.lst l):=fun _=>rfl
  have q:inw H=[(1,0),(0,1),(-1,0),(0,-1)]:=by unfold inw;rw[xc one]
  rw[q,xw one]
  simp_arith [zF7,e,l]
  rfl
 ·have e:eqI S (.int ((H.map cel).length:Int)) (.int 1)=some (.bl false):=by rw[zDm,xA (by rw[xn];lia)]
  have n:=zYw (S:=S) (rs:=H) (by nofun) hl
  have m9:1000<=most:=by decide
  have nl:=zI9 h1
  have c1:zAt 2 [] (iVal (zAc zC3 (zA0 (eVar 0) aNil))) (gTup [(gName 0),(gName 1)]) tYes (eTup (zA0 (eOp subD (eOp ixD (eVar 1) (eC (.int 0))) (eOp ixD (eVar 0) (eC (.int 0)))) (zA0 (eOp subD (eOp ixD (eVar 1) (eC (.int 1))) (eOp ixD (eVar 0) (eC (.int 1)))) aNil))) [some (.tup (H.map cel)),none,none] S=.ok (.lst ((wys H).map cel)) S:=by
   rw[zD1 (xs:=nbs H) (h:=prD) (gd:=[]) (fun env=>∃a b,env=[a,b]) (f:=fun p=>cel (p.2.1-p.1.1,p.2.2-p.1.2)) (by simp only[iVal,zAc,zA0,aNil,eVar,xB,Rs.bind_ok,n,zEl,zA7]) zAq ⟨none,none,rfl⟩ (by nofun) ?_]
   ·unfold wys
    rw[xG];rfl
   ·rintro p hp env ⟨a,b,rfl⟩
    refine⟨[some (cel p.1),some (cel p.2)],by simp_arith [xi],⟨_,_,rfl⟩,by simp_arith [xi]⟩
  have c2:zAt 1 [] (iVal (eVar 1)) (gName 0) tYes (eTup (zA0 (eUn negD (eOp ixD (eVar 0) (eC (.int 1)))) (zA0 (eOp ixD (eVar 0) (eC (.int 0))) aNil))) [some (.tup (H.map cel)),some (.lst ((wys H).map cel)),none] S=.ok (.lst ((ups H).map cel)) S:=by
   rw[zD1 (xs:=wys H) (h:=cel) (gd:=[]) (fun env=>∃a,env=[a]) (f:=fun w=>cel (-w.2,w.1)) (by simp only[iVal,eVar,xB,xN,Rs.bind_ok,zEl,zA7]) zAq ⟨none,rfl⟩ (by unfold wys;rw[xn];lia) ?_]
   ·unfold ups
    rw[xG];rfl
   ·rintro p hp env ⟨a,rfl⟩
    refine⟨[some (cel p)],by simp_arith [xi],⟨_,rfl⟩,by simp_arith [negD]⟩
  have kf:∀l:List Pt,l.map (kc false)=l.map cel:=fun l=>rfl
  rw[xA one,kf]
  have wl:(wys H).length=H.length:=by unfold wys;rw[xn,nl]
  have ul:(ups H).length=H.length:=by unfold ups;rw[xn,wl]
  by_cases two:H.length=2
  ·have e2:eqI S (.int ((H.map cel).length:Int)) (.int 2)=some (.bl true):=by rw[zDm,xw (by rw[xn,two];rfl)]
   have ad:addD S (.lst ((ups H).map cel)) (.lst ((wys H).map cel))=some (.lst ((inw H).map cel)):=by
    show(if((ups H).map cel).length+((wys H).map cel).length<=most then some (D.lst ((ups H).map cel++(wys H).map cel))else none)=_
    rw[xc (by rw[xn,xn];lia),<- vR]
    unfold inw
    rw[xf one,xc two]
   simp only[sSeq,sIf,zBa,sSet,sRet,eIf,tB,asB,eOp,eCB,eC,zA0,aNil,eVar,xB,xN,v8,vQ,Rs.bind_ok,Rs.then_ok,zA7,zF7,e,e2,c1,c2,ad,x9,xO,xi]
  ·have e2:eqI S (.int ((H.map cel).length:Int)) (.int 2)=some (.bl false):=by rw[zDm,xA (by rw[xn];lia)]
   have q:inw H=ups H:=by unfold inw;rw[xf one,xf two]
   simp only[sSeq,sIf,zBa,sSet,sRet,eIf,tB,asB,eOp,eCB,eC,zA0,aNil,eVar,xB,xN,v8,vQ,Rs.bind_ok,Rs.then_ok,zA7,zF7,e,e2,c1,c2,q,x9,xO,xi]
theorem zPa {S:Store}{xs:List Int}(hl:xs.length<=61) (hn:xs≠[]):minI S [.lst (xs.map D.int)]=some (.int (mn xs)):=by
 obtain⟨v,hv,e,h⟩:=zPb (S:=S) hn
 rw[e,zVw hv h]
noncomputable abbrev sdD (b:Bool) (H:List Pt) (s:Pt):D:=.tup [kc b s,.int (mw s H)]
theorem zTj {k:Nat}{b:Bool}{H:List Pt}:∀(l:List Pt),lowL k (l.map (sdD b H))=true
 | []=>rfl
 | p::l=>by
  show((sdD b H p).low k && lowL k (l.map (sdD b H)))=true
  rw[zTj l]
  cases b <;> rfl
theorem zL8 {S:Store}{v:D}{H:List Pt}(hh:∀S,zBq [v] S=.ok (.tup (H.map cel)) S) (hb:∀p∈H,BP p) (h1:1<=H.length) (hl:H.length<=61):zBz [v] S=.ok (.tup ((inw H).map (sdD (decide (H.length=1)) H))) S:=by
 have m9:1000<=most:=by decide
 have ne:H≠[]:=fun z=>by rw[z]at h1;simp at h1
 refine zAl rfl ?_ (zTj _)
 show zE8 [some v,none] S=_
 unfold zE8
 have inn:∀(s:Pt),s∈inw H->zAt 1 [0] (iVal (eVar 1)) (gName 0) tYes (zAc zFc (zA0 (eVar 1) (zA0 (eVar 0) aNil))) [some (kc (decide (H.length=1)) s),some (.tup (H.map cel))] S=.ok (.lst ((H.map (wth s)).map D.int)) S:=fun s hs=>by
  rw[zD1 (xs:=H) (h:=cel) (gd:=[]) (fun env=>∃a,env=[a,some (kc (decide (H.length=1)) s)]) (f:=fun p=>.int (wth s p)) (by simp only[iVal,eVar,xB,xN,Rs.bind_ok,zDu,zA7]) zAq ⟨none,rfl⟩ (by nofun) ?_]
  ·rw[xG];rfl
  ·rintro p hp env ⟨a,rfl⟩
   have bs:=zLw hb s hs
   have bp:=hb p hp
   have w:=zQu (S:=S) (b:=decide (H.length=1)) bs.1 bs.2 (bp.1.mono (by decide)) (bp.2.mono (by decide)) (by decide)
   exact⟨[some (cel p),some (kc (decide (H.length=1)) s)],by simp_arith [xi],⟨_,rfl⟩,by simp_arith [w]⟩
 have c:zAt 1 [1] (iVal (zAc zEy (zA0 (eVar 1) aNil))) (gName 0) tYes (eTup (zA0 (eVar 0) (zA0 (eCB minI (zA0 (zAt 1 [0] (iVal (eVar 1)) (gName 0) tYes (zAc zFc (zA0 (eVar 1) (zA0 (eVar 0) aNil)))) aNil)) aNil))) [some v,some (.tup (H.map cel))] S=.ok (.lst ((inw H).map (sdD (decide (H.length=1)) H))) S:=by
  refine zD1 (xs:=inw H) (h:=kc (decide (H.length=1))) (gd:=[]) (fun env=>∃a,env=[a,some (.tup (H.map cel))]) (f:=sdD (decide (H.length=1)) H) (by simp only[iVal,zAc,zA0,aNil,eVar,xB,xN,Rs.bind_ok,zPr hb h1 hl,zEl,zA7]) zAq ⟨none,rfl⟩ (by have:=(zIb h1).1;lia) ?_
  rintro s hs env ⟨a,rfl⟩
  refine⟨[some (kc (decide (H.length=1)) s),some (.tup (H.map cel))],by simp_arith [xi],⟨_,rfl⟩,?_⟩
  have i:=inn s hs
  have mi:=zPa (S:=S) (xs:=H.map (wth s)) (by rw[xn];exact hl) (by simpa using ne)
  have i2:∀E:EM,E [some (kc (decide (H.length=1)) s),some (.tup (H.map cel))] S=.ok (.lst ((H.map (wth s)).map D.int)) S->eTup (zA0 (eVar 0) (zA0 (eCB minI (zA0 E aNil)) aNil)) [some (kc (decide (H.length=1)) s),some (.tup (H.map cel))] S=.ok (sdD (decide (H.length=1)) H s) S:=fun E hE=>by
   simp only[eTup,eCB,zA0,aNil,eVar,xB,Rs.bind_ok,hE,mi,zA7]
   rfl
  exact i2 _ i
 have tp:∀l,zEm S [.lst l]=some (.tup l):=fun _=>rfl
 have x1:sSet 1 (zAc zBq (zA0 (eVar 0) aNil)) [some v,none] S=.nx [some v,some (.tup (H.map cel))] S:=by simp_arith [hh]
 rw[sSeq,x1]
 dsimp only
 rw[sRet,eCB,zA0,c,Rs.bind_ok,aNil,Rs.bind_ok,Rs.bind_ok,tp,zA7,Rs.then_ok]
noncomputable def WiQ (H:List Pt) (x lx y ly:Int):Prop:=∀s∈inw H,mw s H*(lx*ly)<=s.1*x*ly+s.2*y*lx
theorem zTy {α:Type}{S:Store}{p:α->Bool}(l:List α):allB S [.lst (l.map fun x=>.bl (p x))]=some (.bl (l.all p)):=by
 have:∀l:List α,bools (l.map fun x=>.bl (p x))=some (l.map p):=fun l=>by
  induction l with
  | nil=>rfl
  | cons a l ih=>show(bools (l.map fun x=>D.bl (p x))).map (p a::·)=_;rw[ih];rfl
 show((bools (l.map fun x=>D.bl (p x))).map fun bs=>D.bl (bs.all id))=_
 rw[this]
 simp
theorem zYy {H:List Pt}{s:Pt}(hb:∀p∈H,BP p) (h1:1<=H.length) (h:BB 110 s.1/\BB 110 s.2):BB 300 (mw s H):=by
 obtain⟨p,hp,e⟩:=zMy (s:=s) (H:=H) (fun z=>by rw[z]at h1;simp at h1)
 rw[e]
 exact((h.1.mul (hb p hp).1).add (h.2.mul (hb p hp).2)).mono (by decide)
theorem zZl {S:Store}{v:D}{H:List Pt}{x lx y ly:Int}(hh:∀S,zBq [v] S=.ok (.tup (H.map cel)) S) (hb:∀p∈H,BP p) (h1:1<=H.length) (hl:H.length<=61)
  (hx:BB 200 x) (hlx:BB 200 lx) (hy:BB 200 y) (hly:BB 200 ly) (p1:0<lx) (p2:0<ly):zCh [v,.tup [frc x lx,frc y ly]] S=.ok (.bl (decide (WiQ H x lx y ly))) S:=by
 have m9:1000<=most:=by decide
 refine zAl rfl ?_ rfl
 show zF0 [some v,some (.tup [frc x lx,frc y ly])] S=_
 unfold zF0
 have c:zAt 2 [1] (iVal (zAc zBz (zA0 (eVar 0) aNil))) (gTup [(gName 0),(gName 1)]) tYes (eNot (zAc zDl (zA0 (zAc zCv (zA0 (eVar 0) (zA0 (eVar 2) aNil))) (zA0 (eTup (zA0 (eVar 1) (zA0 (eC (.int 1)) aNil))) aNil)))) [some v,some (.tup [frc x lx,frc y ly])] S=.ok (.lst ((inw H).map fun s=>.bl (!decide (s.1*x*ly+s.2*y*lx<mw s H*(lx*ly))))) S:=by
  refine zD1 (xs:=inw H) (h:=sdD (decide (H.length=1)) H) (gd:=[]) (fun env=>∃a b,env=[a,b,some (.tup [frc x lx,frc y ly])]) (f:=fun s=>.bl (!decide (s.1*x*ly+s.2*y*lx<mw s H*(lx*ly)))) (by simp only[iVal,zAc,zA0,aNil,eVar,xB,Rs.bind_ok,zL8 hh hb h1 hl,zDu,zA7]) zAq ⟨none,none,rfl⟩ (by have:=(zIb h1).1;lia) ?_
  rintro s hs env ⟨a,b,rfl⟩
  have bs:=zLw hb s hs
  obtain⟨w,e1,e2⟩:=zX3 (S:=S) (b:=decide (H.length=1)) (s:=s) (n:=mw s H) (bs.1.mono (by decide)) (bs.2.mono (by decide)) hx hlx hy hly p1 p2 ((zYy hb h1 bs).mono (by decide))
  exact⟨[some (kc (decide (H.length=1)) s),some (.int (mw s H)),some (.tup [frc x lx,frc y ly])],by simp_arith [xi],⟨_,_,rfl⟩,by simp_arith [e1,e2]⟩
 have r:((inw H).all fun s=>!decide (s.1*x*ly+s.2*y*lx<mw s H*(lx*ly)))=decide (WiQ H x lx y ly):=by
  rw[uQ,vv,uZ]
  unfold WiQ
  refine⟨fun h s hs=>?_,fun h s hs=>?_⟩
  ·have:=h s hs
   rw[Bool.not_eq_true',decide_eq_false_iff_not]at this
   lia
  ·rw[Bool.not_eq_true',decide_eq_false_iff_not]
   have:=h s hs
   lia
 simp only[sRet,eCB,zA0,aNil]
 rw[c]
 simp only[Rs.bind_ok,Rs.then_ok,zTy,r,zA7]
theorem zWg {cs:List Pt}(hb:∀p∈cs,BP p) (h1:1<=cs.length) (hl:cs.length<=61):∃H,(∀S,zBq [.tup (cs.map cel)] S=.ok (.tup (H.map cel)) S)/\HU cs H:=by
 obtain⟨rs,er⟩:∃rs,srtP cs=rs:=⟨_,rfl⟩
 have mem:∀p,p∈rs <-> p∈cs:=fun p=>by rw[<- er];exact mem_srtP
 have rp:rs.Pairwise plt:=by rw[<- er];exact zK3 cs
 have nd:rs.Nodup:=rp.imp fun {a b} h z=>by rw[z]at h;unfold plt at h;lia
 have rl:rs.length<=cs.length:=zLj nd fun p hp=>(mem p).mp hp
 refine⟨hull rs,fun S=>zWe hb hl er mem rl,?_⟩
 match rs,rl,nd,mem,rp with
 | [],_,_,mem,_=>
  exfalso
  obtain⟨c,r,rfl⟩:=yB (show 0<cs.length by nofun)
  have:=(mem c).mpr (.head _)
  cases this
 | [p],_,_,mem,_=>
  rw[zSd]
  refine .inl ⟨p,rfl,fun z=>by rw[z]at h1;simp at h1,fun c hc=>xV.mp ((mem c).mpr hc)⟩
 | p::q::r,_,_,mem,rp=>exact .inr ⟨_,zWf rp (by simp),mem⟩
theorem zWl {α:Type}{h:α->D}{gd:List (Nat × D)}{g:GM}{b:SM}{S:Store}(I:Env->Prop) (hg:gOk S gd):∀(xs:List α) (env:Env),I env->
  (∀a∈xs,∀env,I env->∃env' env'',g S (h a) env=some env'/\b env' S=.nx env'' S/\I env'')->∃env',forL gd g b (xs.map h) env S=.nx env' S/\I env'
 | [],env,hi,_=>⟨env,by rw[vE,forL,xc hg],hi⟩
 | a::xs,env,hi,he=>by
  obtain⟨env',env'',e1,e2,e3⟩:=he a (.head _) env hi
  obtain⟨e4,e5,e6⟩:=zWl (h:=h) (gd:=gd) (g:=g) (b:=b) I hg xs env'' e3 fun b hb=>he b (.tail _ hb)
  refine⟨e4,?_,e6⟩
  rw[xt,forL,xc hg,e1]
  dsimp only
  rw[e2]
  exact e5
end
end DP
namespace DP
open DS
noncomputable section
open Classical
noncomputable abbrev pt3 (x y l:Int):D:=.tup [.int x,.int y,.int l]
theorem zK1 {S:Store}{a b:Pt}{x y l:Int}(ha:BP a) (hb:BP b) (hx:BB 150 x) (hy:BB 150 y) (hl:BB 30 l):zC0 [cel a,cel b,pt3 x y l] S=.ok (.int (crq a b x y l)) S:=by
 refine zAl rfl ?_ rfl
 show zD6 [some (cel a),some (cel b),some (pt3 x y l),none,none,none,none] S=_
 have m1:=hy.sub (ha.2.mul hl)
 have m2:=hx.sub (ha.1.mul hl)
 unfold zD6 crq
 simp_arith [zAp ha.2 hl,zAp ha.1 hl,zAp (hb.1.sub ha.1) m1,zAp (hb.2.sub ha.2) m2]
theorem zZ2 {S:Store}{a b c:Int}:minI S [.lst [.int a,.int b,.int c]]=some (.int (min (min a b) c)):=by
 rw[show [D.int a,D.int b,D.int c]=[a,b,c].map D.int from rfl,zPa (by simp) (by simp)]
 simp only[mn]
 congr 2
 rcases uh a b with h|h <;> rcases uh b c with h'|h' <;> rcases uh a c with h''|h'' <;> simp[Int.min_def] <;> split <;> lia
theorem zZ3 {S:Store}{a b c:Int}:maxI S [.lst [.int a,.int b,.int c]]=some (.int (max (max a b) c)):=by
 obtain⟨v,hv,e,h⟩:=zPd (S:=S) (xs:=[a,b,c]) (by simp)
 rw[show [D.int a,D.int b,D.int c]=[a,b,c].map D.int from rfl,e]
 congr 2
 have h1:=h a (by simp)
 have h2:=h b (by simp)
 have h3:=h c (by simp)
 simp at hv
 rw[Int.max_def,Int.max_def]
 split <;> split <;> lia
theorem rng3:zEg [.int 3]=some ⟨[.int 0,.int 1,.int 2],[]⟩:=by
 show(if fits62 3=true then some (Walk.mk (zEs 0 3) [])else none)=_
 rw[xc (by decide)]
 rfl
theorem nd3 {S:Store}{a b c:Int}:neLI S (.lst [.int a,.int b,.int c]) (.lst [.int 0,.int 0,.int 0])=some (.bl (decide (a≠0\/b≠0\/c≠0))):=by
 unfold neLI
 rw[show [D.int a,D.int b,D.int c]=[a,b,c].map D.int from rfl,show [D.int 0,D.int 0,D.int 0]=[0,0,0].map D.int from rfl,zLl,zLl]
 dsimp only
 rw[xc (show [a,b,c].length=[(0:Int),0,0].length from rfl)]
 congr 2
 rw[<- decide_not]
 apply vS.mpr
 simp
 lia
theorem zG2 {α:Type}{h:α->D}{g:GM}{b:SM}{S:Store}{v:D}(I:Env->Prop) (P:α->Prop):∀(xs:List α) (env:Env),I env->
  (∀a∈xs,∀env,I env->∃env',g S (h a) env=some env'/\((P a/\b env' S=.rt v S)\/(¬ P a/\∃env'',b env' S=.nx env'' S/\I env'')))->
  ((∃a∈xs,P a)/\forL [] g b (xs.map h) env S=.rt v S)\/((¬ ∃a∈xs,P a)/\∃env',forL [] g b (xs.map h) env S=.nx env' S/\I env')
 | [],env,hi,_=>.inr ⟨(fun⟨a,ha,_⟩=>by cases ha),env,by rw[vE,forL,xc zAq],hi⟩
 | a::xs,env,hi,he=>by
  obtain⟨env',e1,e2⟩:=he a (.head _) env hi
  rcases e2 with⟨p,e2⟩|⟨np,env'',e2,i2⟩
  ·refine .inl ⟨⟨a,.head _,p⟩,?_⟩
   rw[xt,forL,xc zAq,e1]
   dsimp only
   rw[e2]
  ·rcases zG2 (g:=g) (b:=b) (v:=v) (h:=h) I P xs env'' i2 fun c hc=>he c (.tail _ hc)with⟨⟨c,hc,pc⟩,e3⟩|⟨n,e4,e3,i3⟩
   ·refine .inl ⟨⟨c,.tail _ hc,pc⟩,?_⟩
    rw[xt,forL,xc zAq,e1]
    dsimp only
    rw[e2]
    exact e3
   ·refine .inr ⟨fun hq1=>?_,e4,?_,i3⟩
    ·obtain⟨c,hc,pc⟩:=hq1
     rcases xm.mp hc with z|z
     ·exact np (z ▸ pc)
     ·exact n ⟨c,z,pc⟩
    ·rw[xt,forL,xc zAq,e1]
     dsimp only
     rw[e2]
     exact e3
theorem zVx {a b c:Int}:min (min a b) c<0 <-> (a<0\/b<0\/c<0):=by
 rw[Int.min_def,Int.min_def];split <;> split <;> lia
theorem zVy {a b c:Int}:0<max (max a b) c <-> (0<a\/0<b\/0<c):=by
 rw[Int.max_def,Int.max_def];split <;> split <;> lia
theorem zPc {a b c x:Int}:min (min a b) c<=x <-> (a<=x\/b<=x\/c<=x):=by
 rw[Int.min_def,Int.min_def];split <;> split <;> lia
theorem zPe {a b c x:Int}:x<=max (max a b) c <-> (x<=a\/x<=b\/x<=c):=by
 rw[Int.max_def,Int.max_def];split <;> split <;> lia
theorem ltd {S:Store}{x y:Int}:leD S (.int x) (.int y)=some (.bl (decide (x<=y))):=rfl
theorem chn {S:Store}{env:Env}{i j:Nat}{p q r x:Int}(hi:eVar i env S=.ok (.lst [.int p,.int q,.int r]) S) (hj:eVar j env S=.ok (.int x) S):zHh leD leD (eCB minI (zA0 (eVar i) aNil)) (eVar j) (eCB maxI (zA0 (eVar i) aNil)) env S=.ok (.bl (decide (min (min p q) r<=x) && decide (x<=max (max p q) r))) S:=by
 cases h1:decide (min (min p q) r<=x) <;> simp only[zHh,eCB,zA0,aNil,hi,hj,Rs.bind_ok,zZ2,zZ3,ltd,zA7,h1,asB,Bool.true_and,Bool.false_and,xi,x9,xO]
theorem and2 {S:Store}{env:Env}{a b:EM}{p q:Bool}(ha:a env S=.ok (.bl p) S) (hb:b env S=.ok (.bl q) S):eAnd a b env S=.ok (.bl (p && q)) S:=by
 cases p <;> simp only[eAnd,ha,hb,Rs.bind_ok,asB,zA7,Bool.true_and,Bool.false_and,xi,x9,xO]
theorem zWa {S:Store}{a b c:Pt}{x y l:Int}(ha:BP a) (hb:BP b) (hc:BP c) (hx:BB 150 x) (hy:BB 150 y) (hl:BB 30 l):zC4 [.tup [cel a,cel b,cel c],pt3 x y l] S=.ok (.bl (decide (IsIn a b c x y l))) S:=by
 refine zAl rfl ?_ rfl
 show zCp [some (.tup [cel a,cel b,cel c]),some (pt3 x y l),none,none,none,none,none,none] S=_
 have m9:1000<=most:=by decide
 have t1:=zK1 (S:=S) ha hb hx hy hl
 have t2:=zK1 (S:=S) hb hc hx hy hl
 have t3:=zK1 (S:=S) hc ha hx hy hl
 have c1:zAt 1 [1,0] (zAw (zA0 (eC (.int 3)) aNil)) (gName 0) tYes (zAc zC0 (zA0 (eOp ixD (eVar 2) (eVar 0)) (zA0 (eOp ixD (eVar 2) (eOp modD (eOp addD (eVar 0) (eC (.int 1))) (eC (.int 3)))) (zA0 (eVar 1) aNil)))) [some (.tup [cel a,cel b,cel c]),some (pt3 x y l),none,none,none,none,none,none] S=.ok (.lst [.int (crq a b x y l),.int (crq b c x y l),.int (crq c a x y l)]) S:=by
  have md:∀n:Int,modD S (.int n) (.int 3)=some (.int (n % 3)):=fun n=>zBy (by decide)
  rw[zD1 (xs:=[(0,crq a b x y l),(1,crq b c x y l),((2:Int),crq c a x y l)]) (h:=fun p=>.int p.1) (gd:=[]) (fun env=>∃o,env=[o,some (pt3 x y l),some (.tup [cel a,cel b,cel c])]) (f:=fun p=>.int p.2) (by simp only[zAw,zA0,aNil,eC,Rs.bind_ok,rng3,zA7];rfl) zAq ⟨none,rfl⟩ (by simp;lia) ?_]
  ·rfl
  ·rintro p hp env ⟨o,rfl⟩
   simp only[xm,xP,xQ]at hp
   rcases hp with rfl|rfl|rfl
   ·exact⟨[some (.int 0),some (pt3 x y l),some (.tup [cel a,cel b,cel c])],by simp_arith [xi],⟨_,rfl⟩,by simp_arith [md,show((0:Int)+1) % 3=1 from rfl,t1]⟩
   ·exact⟨[some (.int 1),some (pt3 x y l),some (.tup [cel a,cel b,cel c])],by simp_arith [xi],⟨_,rfl⟩,by simp_arith [md,show((1:Int)+1) % 3=2 from rfl,t2]⟩
   ·exact⟨[some (.int 2),some (pt3 x y l),some (.tup [cel a,cel b,cel c])],by simp_arith [xi],⟨_,rfl⟩,by simp_arith [md,show((2:Int)+1) % 3=0 from rfl,t3]⟩
 have cc:∀(f:Pt->Int) (n:Int),(∀(p:Pt) S,ixD S (cel p) (.int n)=some (.int (f p)))->BB 100 (f a)->BB 100 (f b)->BB 100 (f c)->∀o6 o7,zAt 1 [5] (iVal (eVar 0)) (gName 0) tYes (eOp mulD (eOp ixD (eVar 0) (eC (.int n))) (eVar 1)) [some (.tup [cel a,cel b,cel c]),some (pt3 x y l),some (.lst [.int (crq a b x y l),.int (crq b c x y l),.int (crq c a x y l)]),some (.int x),some (.int y),some (.int l),o6,o7] S=.ok (.lst [.int (f a*l),.int (f b*l),.int (f c*l)]) S:=fun f n hf b1 b2 b3 o6 o7=>by
  rw[zD1 (xs:=[a,b,c]) (h:=cel) (gd:=[]) (fun env=>∃o,env=[o,some (.int l)]) (f:=fun p=>.int (f p*l)) (by simp only[iVal,eVar,xB,Rs.bind_ok,zDu,zA7];rfl) zAq ⟨none,rfl⟩ (by simp;lia) ?_]
  ·rfl
  ·rintro p hp env ⟨o,rfl⟩
   have bp:BB 100 (f p):=by
    simp only[xm,xP,xQ]at hp
    rcases hp with rfl|rfl|rfl <;> assumption
   refine⟨[some (cel p),some (.int l)],by simp_arith [xi],⟨_,rfl⟩,?_⟩
   simp only[eOp,eVar,eC,xB,xN,Rs.bind_ok,hf,zA7,zAp bp hl]
 have cx:=cc (·.1) 0 (fun _ _=>atL0) ha.1 hb.1 hc.1
 have cy:=cc (·.2) 1 (fun _ _=>atL1) ha.2 hb.2 hc.2
 have x1:sSet 2 (zAt 1 [1,0] (zAw (zA0 (eC (.int 3)) aNil)) (gName 0) tYes (zAc zC0 (zA0 (eOp ixD (eVar 2) (eVar 0)) (zA0 (eOp ixD (eVar 2) (eOp modD (eOp addD (eVar 0) (eC (.int 1))) (eC (.int 3)))) (zA0 (eVar 1) aNil))))) [some (.tup [cel a,cel b,cel c]),some (pt3 x y l),none,none,none,none,none,none] S=.nx [some (.tup [cel a,cel b,cel c]),some (pt3 x y l),some (.lst [.int (crq a b x y l),.int (crq b c x y l),.int (crq c a x y l)]),none,none,none,none,none] S:=by
  rw[sSet,c1];rfl
 unfold zCp
 rw[sSeq,x1]
 dsimp only
 have mi:=zZ2 (S:=S) (a:=crq a b x y l) (b:=crq b c x y l) (c:=crq c a x y l)
 have ma:=zZ3 (S:=S) (a:=crq a b x y l) (b:=crq b c x y l) (c:=crq c a x y l)
 have ne:=nd3 (S:=S) (a:=crq a b x y l) (b:=crq b c x y l) (c:=crq c a x y l)
 have k1:=zVx (a:=crq a b x y l) (b:=crq b c x y l) (c:=crq c a x y l)
 have k2:=zVy (a:=crq a b x y l) (b:=crq b c x y l) (c:=crq c a x y l)
 by_cases mix:(crq a b x y l<0\/crq b c x y l<0\/crq c a x y l<0)/\(0<crq a b x y l\/0<crq b c x y l\/0<crq c a x y l)
 ·have z:¬ IsIn a b c x y l:=fun h=>h.1 mix
  rw[xA z]
  simp_arith [mi,ma,zGd,zKl,xw (k1.mpr mix.1),xw (k2.mpr mix.2)]
 ·have pass:(sIf (tAnd (tB (eOp ltI (eCB minI (zA0 (eVar 2) aNil)) (eC (.int 0)))) (tB (eOp gtD (eCB maxI (zA0 (eVar 2) aNil)) (eC (.int 0))))) (sRet (eC (.bl false))) zBa) [some (.tup [cel a,cel b,cel c]),some (pt3 x y l),some (.lst [.int (crq a b x y l),.int (crq b c x y l),.int (crq c a x y l)]),none,none,none,none,none] S=.nx [some (.tup [cel a,cel b,cel c]),some (pt3 x y l),some (.lst [.int (crq a b x y l),.int (crq b c x y l),.int (crq c a x y l)]),none,none,none,none,none] S:=by
   by_cases n:(crq a b x y l<0\/crq b c x y l<0\/crq c a x y l<0)
   ·have np:=fun w=>mix ⟨n,w⟩
    simp_arith [mi,ma,zGd,zKl,xw (k1.mpr n),xA (fun w=>np (k2.mp w))]
   ·simp_arith [mi,zGd,xA (fun w=>n (k1.mp w))]
  rw[sSeq,pass]
  dsimp only
  by_cases nz:crq a b x y l≠0\/crq b c x y l≠0\/crq c a x y l≠0
  ·have z:IsIn a b c x y l:=⟨mix,.inl nz⟩
   rw[xw z]
   simp_arith [ne,xw nz]
  ·have e2:(sIf (tB (eOp neLI (eVar 2) (eLst (zA0 (eC (.int 0)) (zA0 (eC (.int 0)) (zA0 (eC (.int 0)) aNil)))))) (sRet (eC (.bl true))) zBa) [some (.tup [cel a,cel b,cel c]),some (pt3 x y l),some (.lst [.int (crq a b x y l),.int (crq b c x y l),.int (crq c a x y l)]),none,none,none,none,none] S=.nx [some (.tup [cel a,cel b,cel c]),some (pt3 x y l),some (.lst [.int (crq a b x y l),.int (crq b c x y l),.int (crq c a x y l)]),none,none,none,none,none] S:=by
    simp_arith [ne,xA nz]
   rw[sSeq,e2]
   dsimp only
   have e3:sUnp (gTup [(gName 3),(gName 4),(gName 5)]) (eVar 1) [some (.tup [cel a,cel b,cel c]),some (pt3 x y l),some (.lst [.int (crq a b x y l),.int (crq b c x y l),.int (crq c a x y l)]),none,none,none,none,none] S=.nx [some (.tup [cel a,cel b,cel c]),some (pt3 x y l),some (.lst [.int (crq a b x y l),.int (crq b c x y l),.int (crq c a x y l)]),some (.int x),some (.int y),some (.int l),none,none] S:=by simp_arith [xi]
   rw[sSeq,e3]
   dsimp only
   have e4:sPar [6,7] (zA0 (zAt 1 [5] (iVal (eVar 0)) (gName 0) tYes (eOp mulD (eOp ixD (eVar 0) (eC (.int 0))) (eVar 1))) (zA0 (zAt 1 [5] (iVal (eVar 0)) (gName 0) tYes (eOp mulD (eOp ixD (eVar 0) (eC (.int 1))) (eVar 1))) aNil)) [some (.tup [cel a,cel b,cel c]),some (pt3 x y l),some (.lst [.int (crq a b x y l),.int (crq b c x y l),.int (crq c a x y l)]),some (.int x),some (.int y),some (.int l),none,none] S=.nx [some (.tup [cel a,cel b,cel c]),some (pt3 x y l),some (.lst [.int (crq a b x y l),.int (crq b c x y l),.int (crq c a x y l)]),some (.int x),some (.int y),some (.int l),some (.lst [.int (a.1*l),.int (b.1*l),.int (c.1*l)]),some (.lst [.int (a.2*l),.int (b.2*l),.int (c.2*l)])] S:=by
    have g:∀E1 E2:EM,E1 [some (.tup [cel a,cel b,cel c]),some (pt3 x y l),some (.lst [.int (crq a b x y l),.int (crq b c x y l),.int (crq c a x y l)]),some (.int x),some (.int y),some (.int l),none,none] S=.ok (.lst [.int (a.1*l),.int (b.1*l),.int (c.1*l)]) S->E2 [some (.tup [cel a,cel b,cel c]),some (pt3 x y l),some (.lst [.int (crq a b x y l),.int (crq b c x y l),.int (crq c a x y l)]),some (.int x),some (.int y),some (.int l),none,none] S=.ok (.lst [.int (a.2*l),.int (b.2*l),.int (c.2*l)]) S->sPar [6,7] (zA0 E1 (zA0 E2 aNil)) [some (.tup [cel a,cel b,cel c]),some (pt3 x y l),some (.lst [.int (crq a b x y l),.int (crq b c x y l),.int (crq c a x y l)]),some (.int x),some (.int y),some (.int l),none,none] S=.nx [some (.tup [cel a,cel b,cel c]),some (pt3 x y l),some (.lst [.int (crq a b x y l),.int (crq b c x y l),.int (crq c a x y l)]),some (.int x),some (.int y),some (.int l),some (.lst [.int (a.1*l),.int (b.1*l),.int (c.1*l)]),some (.lst [.int (a.2*l),.int (b.2*l),.int (c.2*l)])] S:=fun E1 E2 h1 h2=>by simp_arith [h1,h2]
    exact g _ _ (cx none none) (cy none none)
   rw[sSeq,e4]
   dsimp only
   have dd:decide (IsIn a b c x y l)=decide (Bx (a.1*l) (b.1*l) (c.1*l) x/\Bx (a.2*l) (b.2*l) (c.2*l) y):=vS.mpr ⟨fun h=>h.2.resolve_left nz,fun h=>⟨mix,.inr h⟩⟩
   rw[dd]
   have p1:=zPc (a:=a.1*l) (b:=b.1*l) (c:=c.1*l) (x:=x)
   have p2:=zPe (a:=a.1*l) (b:=b.1*l) (c:=c.1*l) (x:=x)
   have p3:=zPc (a:=a.2*l) (b:=b.2*l) (c:=c.2*l) (x:=y)
   have p4:=zPe (a:=a.2*l) (b:=b.2*l) (c:=c.2*l) (x:=y)
   have d1:decide (Bx (a.1*l) (b.1*l) (c.1*l) x/\Bx (a.2*l) (b.2*l) (c.2*l) y)=(decide (min (min (a.1*l) (b.1*l)) (c.1*l)<=x) && decide (x<=max (max (a.1*l) (b.1*l)) (c.1*l)) && (decide (min (min (a.2*l) (b.2*l)) (c.2*l)<=y) && decide (y<=max (max (a.2*l) (b.2*l)) (c.2*l)))):=by
    rw[uQ,uZ]
    simp only[xM,uV,Bx,p1,p2,p3,p4]
   rw[d1]
   rw[sRet,and2 (chn (p:=a.1*l) (q:=b.1*l) (r:=c.1*l) (x:=x) rfl rfl) (chn (p:=a.2*l) (q:=b.2*l) (r:=c.2*l) (x:=y) rfl rfl),Rs.then_ok]
end
end DP
namespace DP
open DS
noncomputable section
open Classical
theorem rg1 {j:Nat}(h:j<1000):zEg [.int (j:Int)]=some ⟨(List.range j).map fun(i:Nat)=>.int (i:Int),[]⟩:=by
 have:=zLb (k:=(j:Int)) (by nofun) (by nofun)
 simpa using this
theorem rg2 {a n:Nat}(h:n<1000) (ha:a<10):zEg [.int (a:Int),.int (n:Int)]=some ⟨(List.range (n-a)).map fun(i:Nat)=>.int ((a+i:Nat):Int),[]⟩:=by
 show(if(fits62 (a:Int) && fits62 (n:Int))=true then some (Walk.mk (zEs a n) [])else none)=_
 have f:∀m:Nat,m<1000->fits62 (m:Int)=true:=fun m hm=>by unfold fits62;exact xw ⟨by nofun,by nofun⟩
 rw[f a (by nofun),f n h]
 simp only[Bool.and_self,xi]
 congr 2
 unfold zEs
 rw[show((n:Int)-(a:Int)).toNat=n-a by nofun]
 apply uW
 intro i _
 norm_cast
theorem ar1 {k j i n:Nat}(h1:k<n-2) (h2:j<2+k-1) (h3:i<1+j):i<1+j/\1+j<2+k/\i<n/\1+j<n/\2+k<n:=by nofun
theorem ar2 {k j i n:Nat}(h1:i<j) (h2:j<k) (h3:k<n):k-2<n-2/\j-1<2+(k-2)-1/\i<1+(j-1)/\2+(k-2)=k/\1+(j-1)=j:=by nofun
noncomputable abbrev iB:SM:=(sIf (tTru (zAc zC4 (zA0 (eTup (zA0 (eOp ixD (eVar 2) (eVar 3)) (zA0 (eOp ixD (eVar 2) (eVar 4)) (zA0 (eOp ixD (eVar 2) (eVar 5)) aNil)))) (zA0 (eVar 1) aNil)))) (sRet (eC (.bl true))) zBa)
noncomputable abbrev jB:SM:=(sFor (zAw (zA0 (eVar 4) aNil)) (gName 5) iB)
noncomputable abbrev kB:SM:=(sFor (zAw (zA0 (eC (.int 1)) (zA0 (eVar 3) aNil))) (gName 4) jB)
noncomputable abbrev nB:SM:=(sFor (zAw (zA0 (eC (.int 2)) (zA0 (eCB lenB (zA0 (eVar 2) aNil)) aNil))) (gName 3) kB)
section
variable {S:Store}{v:D}{L:List Pt}{x y l:Int}
noncomputable def at0 (L:List Pt) (i:Nat):Pt:=L.getD i (0,0)
theorem zCa {i:Nat}(h:i<L.length):L[i]?=some (at0 L i):=by
 unfold at0;rw[vL,xp h];rfl
noncomputable abbrev E6 (v:D) (L:List Pt) (x y l:Int) (o3 o4 o5:Option D):Env:=[some v,some (pt3 x y l),some (.lst (L.map cel)),o3,o4,o5]
theorem yAt (hb:∀p∈L,BP p) (hL:L.length<500) (hx:BB 150 x) (hy:BB 150 y) (hl:BB 30 l) {j k:Nat}(hj:j<L.length) (hk:k<L.length) (o5:Option D):
  ((∃i∈List.range j,IsIn (at0 L k) (at0 L j) (at0 L i) x y l)/\jB (E6 v L x y l (some (.int (k:Int))) (some (.int (j:Int))) o5) S=.rt (.bl true) S) \/
  ((¬ ∃i∈List.range j,IsIn (at0 L k) (at0 L j) (at0 L i) x y l)/\∃o5',jB (E6 v L x y l (some (.int (k:Int))) (some (.int (j:Int))) o5) S=.nx (E6 v L x y l (some (.int (k:Int))) (some (.int (j:Int))) o5') S):=by
 have bb:∀i,i<L.length->BP (at0 L i):=fun i hi=>hb _ (xU (zCa hi))
 have w:zAw (zA0 (eVar 4) aNil) (E6 v L x y l (some (.int (k:Int))) (some (.int (j:Int))) o5) S=.ok ⟨(List.range j).map fun(i:Nat)=>.int (i:Int),[]⟩ S:=by
  have rj:=rg1 (j:=j) (xZ hj (xZ hL (by decide)))
  have e:zA0 (eVar 4) aNil (E6 v L x y l (some (.int (k:Int))) (some (.int (j:Int))) o5) S=.ok [.int (j:Int)] S:=by simp_arith [xi]
  rw[zAw,e,Rs.bind_ok,rj,zA7]
 have r:=zG2 (h:=fun(i:Nat)=>.int (i:Int)) (g:=gName 5) (b:=iB) (S:=S) (v:=.bl true) (fun env=>∃o5,env=E6 v L x y l (some (.int (k:Int))) (some (.int (j:Int))) o5) (fun i=>IsIn (at0 L k) (at0 L j) (at0 L i) x y l) (List.range j) (E6 v L x y l (some (.int (k:Int))) (some (.int (j:Int))) o5) ⟨_,rfl⟩ (by
  rintro i hi env ⟨o,rfl⟩
  have hi':i<L.length:=by have:=xC.mp hi;lia
  have q:=zWa (S:=S) (bb k hk) (bb j hj) (bb i hi') hx hy hl
  have g1:=zFg (l:=L) (i:=(k:Int)) rfl (zCa hk)
  have g2:=zFg (l:=L) (i:=(j:Int)) rfl (zCa hj)
  have g3:=zFg (l:=L) (i:=(i:Int)) rfl (zCa hi')
  refine⟨E6 v L x y l (some (.int (k:Int))) (some (.int (j:Int))) (some (.int (i:Int))),by simp_arith [xi],?_⟩
  by_cases p:IsIn (at0 L k) (at0 L j) (at0 L i) x y l
  ·rw[xw p]at q
   refine .inl ⟨p,?_⟩
   unfold iB
   simp_arith [tTru,g1,g2,g3,q,tru]
  ·rw[xA p]at q
   refine .inr ⟨p,E6 v L x y l (some (.int (k:Int))) (some (.int (j:Int))) (some (.int (i:Int))),?_,⟨_,rfl⟩⟩
   unfold iB
   simp_arith [tTru,g1,g2,g3,q,tru])
 have s:jB (E6 v L x y l (some (.int (k:Int))) (some (.int (j:Int))) o5) S=forL [] (gName 5) iB ((List.range j).map fun(i:Nat)=>.int (i:Int)) (E6 v L x y l (some (.int (k:Int))) (some (.int (j:Int))) o5) S:=by
  unfold jB;rw[sFor,w,Rs.then_ok]
 rw[s]
 rcases r with⟨h,e⟩|⟨h,env',e,o,rfl⟩
 ·exact .inl ⟨h,e⟩
 ·exact .inr ⟨h,o,e⟩
theorem yAr (hb:∀p∈L,BP p) (hL:L.length<500) (hx:BB 150 x) (hy:BB 150 y) (hl:BB 30 l) {k:Nat}(hk:k<L.length) (o4 o5:Option D):
  ((∃j∈List.range (k-1),∃i∈List.range (1+j),IsIn (at0 L k) (at0 L (1+j)) (at0 L i) x y l)/\kB (E6 v L x y l (some (.int (k:Int))) o4 o5) S=.rt (.bl true) S) \/
  ((¬ ∃j∈List.range (k-1),∃i∈List.range (1+j),IsIn (at0 L k) (at0 L (1+j)) (at0 L i) x y l)/\∃o4' o5',kB (E6 v L x y l (some (.int (k:Int))) o4 o5) S=.nx (E6 v L x y l (some (.int (k:Int))) o4' o5') S):=by
 have w:zAw (zA0 (eC (.int 1)) (zA0 (eVar 3) aNil)) (E6 v L x y l (some (.int (k:Int))) o4 o5) S=.ok ⟨(List.range (k-1)).map fun(i:Nat)=>.int ((1+i:Nat):Int),[]⟩ S:=by
  have rj:=rg2 (a:=1) (n:=k) (xZ hk (xZ hL (by decide))) (by decide)
  have e:zA0 (eC (.int 1)) (zA0 (eVar 3) aNil) (E6 v L x y l (some (.int (k:Int))) o4 o5) S=.ok [.int ((1:Nat):Int),.int (k:Int)] S:=by simp_arith [xi];rfl
  rw[zAw,e,Rs.bind_ok,rj,zA7]
 have r:=zG2 (h:=fun(j:Nat)=>.int ((1+j:Nat):Int)) (g:=gName 4) (b:=jB) (S:=S) (v:=.bl true) (fun env=>∃o4 o5,env=E6 v L x y l (some (.int (k:Int))) o4 o5) (fun j=>∃i∈List.range (1+j),IsIn (at0 L k) (at0 L (1+j)) (at0 L i) x y l) (List.range (k-1)) (E6 v L x y l (some (.int (k:Int))) o4 o5) ⟨_,_,rfl⟩ (by
  rintro j hj env ⟨o,o',rfl⟩
  have hj':1+j<L.length:=by have:=xC.mp hj;lia
  refine⟨E6 v L x y l (some (.int (k:Int))) (some (.int ((1+j:Nat):Int))) o',by simp_arith [xi],?_⟩
  rcases yAt (S:=S) (v:=v) hb hL hx hy hl hj' hk o' with⟨h,e⟩|⟨h,o5',e⟩
  ·exact .inl ⟨h,e⟩
  ·exact .inr ⟨h,_,e,_,_,rfl⟩)
 have s:kB (E6 v L x y l (some (.int (k:Int))) o4 o5) S=forL [] (gName 4) jB ((List.range (k-1)).map fun(i:Nat)=>.int ((1+i:Nat):Int)) (E6 v L x y l (some (.int (k:Int))) o4 o5) S:=by
  unfold kB;rw[sFor,w,Rs.then_ok]
 rw[s]
 rcases r with⟨h,e⟩|⟨h,env',e,o,o',rfl⟩
 ·exact .inl ⟨h,e⟩
 ·exact .inr ⟨h,o,o',e⟩
theorem yAq (hb:∀p∈L,BP p) (hL:L.length<500) (hx:BB 150 x) (hy:BB 150 y) (hl:BB 30 l):
  (Tri L x y l/\nB (E6 v L x y l none none none) S=.rt (.bl true) S)\/(¬ Tri L x y l/\∃env',nB (E6 v L x y l none none none) S=.nx env' S):=by
 have ln:lenB S [.lst (L.map cel)]=some (.int (L.length:Int)):=by show some (D.int ((L.map cel).length:Int))=_;rw[xn]
 have w:zAw (zA0 (eC (.int 2)) (zA0 (eCB lenB (zA0 (eVar 2) aNil)) aNil)) (E6 v L x y l none none none) S=.ok ⟨(List.range (L.length-2)).map fun(i:Nat)=>.int ((2+i:Nat):Int),[]⟩ S:=by
  have rj:=rg2 (a:=2) (n:=L.length) (xZ hL (by decide)) (by decide)
  have e:zA0 (eC (.int 2)) (zA0 (eCB lenB (zA0 (eVar 2) aNil)) aNil) (E6 v L x y l none none none) S=.ok [.int ((2:Nat):Int),.int (L.length:Int)] S:=by simp_arith [ln];rfl
  rw[zAw,e,Rs.bind_ok,rj,zA7]
 have r:=zG2 (h:=fun(k:Nat)=>.int ((2+k:Nat):Int)) (g:=gName 3) (b:=kB) (S:=S) (v:=.bl true) (fun env=>∃o3 o4 o5,env=E6 v L x y l o3 o4 o5) (fun k=>∃j∈List.range (2+k-1),∃i∈List.range (1+j),IsIn (at0 L (2+k)) (at0 L (1+j)) (at0 L i) x y l) (List.range (L.length-2)) (E6 v L x y l none none none) ⟨_,_,_,rfl⟩ (by
  rintro k hk env ⟨o,o',o'',rfl⟩
  have hk':2+k<L.length:=by have:=xC.mp hk;lia
  refine⟨E6 v L x y l (some (.int ((2+k:Nat):Int))) o' o'',by simp_arith [xi],?_⟩
  rcases yAr (S:=S) (v:=v) hb hL hx hy hl hk' o' o'' with⟨h,e⟩|⟨h,o4',o5',e⟩
  ·exact .inl ⟨h,e⟩
  ·exact .inr ⟨h,_,e,_,_,_,rfl⟩)
 have s:nB (E6 v L x y l none none none) S=forL [] (gName 3) kB ((List.range (L.length-2)).map fun(i:Nat)=>.int ((2+i:Nat):Int)) (E6 v L x y l none none none) S:=by
  unfold nB;rw[sFor,w,Rs.then_ok]
 have t:(∃k∈List.range (L.length-2),∃j∈List.range (2+k-1),∃i∈List.range (1+j),IsIn (at0 L (2+k)) (at0 L (1+j)) (at0 L i) x y l) <-> Tri L x y l:=by
  constructor
  ·rintro⟨k,hk,j,hj,i,hi,h⟩
   obtain⟨a1,a2,a3,a4,a5⟩:=ar1 (xC.mp hk) (xC.mp hj) (xC.mp hi)
   exact⟨i,1+j,2+k,_,_,_,a1,a2,zCa a3,zCa a4,zCa a5,h⟩
  ·rintro⟨i,j,k,a,b,c,ij,jk,ea,eb,ec,h⟩
   have lk:=(xx.mp ec).1
   obtain⟨a1,a2,a3,a4,a5⟩:=ar2 ij jk lk
   have e1:a=at0 L i:=xE (ea.symm.trans (zCa (xZ ij (xZ jk lk))))
   have e2:b=at0 L j:=xE (eb.symm.trans (zCa (xZ jk lk)))
   have e3:c=at0 L k:=xE (ec.symm.trans (zCa lk))
   refine⟨k-2,xC.mpr a1,j-1,xC.mpr a2,i,xC.mpr a3,?_⟩
   rw[a4,a5,<- e1,<- e2,<- e3]
   exact h
 rw[s]
 rcases r with⟨h,e⟩|⟨h,env',e,_⟩
 ·exact .inl ⟨t.mp h,e⟩
 ·exact .inr ⟨fun z=>h (t.mpr z),env',e⟩
end
end
end DP
namespace DP
open DS
noncomputable section
open Classical
noncomputable abbrev cFr:TM:=tB (eOp gtD (eVar 3) (eC (.int 0)))
noncomputable abbrev wFr:SM:=sPar [2,3] (zA0 (eVar 3) (zA0 (eOp modD (eVar 2) (eVar 3)) aNil))
theorem zL0 {S:Store}{a0 a1:Option D}:∀(n:Nat) (u v:Int),0<=u->0<=v->v.toNat<=n->(0<u\/0<v)->∃k g,zAr cFr wFr k [a0,a1,some (.int u),some (.int v)] S=.nx [a0,a1,some (.int g),some (.int 0)] S/\0<g/\g ∣ u/\g ∣ v
 | n,u,v,h0,h1,hn,hp=>by
  have c:cFr [a0,a1,some (.int u),some (.int v)] S=.ok (decide (0<v)) S:=by
   unfold cFr
   simp_arith [zKl]
  by_cases q:0<v
  ·match n,hn with
   | 0,hn=>lia
   | n+1,hn=>
    have w:wFr [a0,a1,some (.int u),some (.int v)] S=.nx [a0,a1,some (.int v),some (.int (u % v))] S:=by
     unfold wFr
     simp_arith [zBy q]
    have r0:=vy u (show v≠0 by nofun)
    have r1:=vx u q
    obtain⟨k,g,e,g0,g1,g2⟩:=zL0 (S:=S) (a0:=a0) (a1:=a1) n v (u % v) h1 r0 (by nofun) (.inl q)
    refine⟨k+1,g,?_,g0,?_,g1⟩
    ·rw[zAr,c,xw q,Rs.then_ok,xc rfl,w]
     exact e
    ·have e0:u=v*(u / v)+u % v:=(Int.mul_ediv_add_emod u v).symm
     rw[e0]
     exact Int.dvd_add (Int.dvd_trans g1 (Int.dvd_mul_right v _)) g2
  ·have v0:v=0:=by nofun
   subst v0
   refine⟨1,u,?_,by nofun,Int.dvd_refl u,Int.dvd_zero u⟩
   rw[zAr,c,xA q,Rs.then_ok,xf (by decide)]
theorem zTm {S:Store}{X L:Int}(hX:BB 150 X) (hL:BB 150 L) (h1:0<L):∃g px pl,zAs [.int X,.int L] S=.ok (frc px pl) S/\0<g/\X=px*g/\L=pl*g/\BB 200 px/\BB 200 pl/\0<pl:=by
 have ab:absB S [.int X]=some (.int (if X<0 then -X else X)):=rfl
 generalize hu:(if X<0 then -X else X)=u at ab
 have u0:0<=u:=by rw[<- hu];split <;> lia
 obtain⟨k,g,e,g0,g1,g2⟩:=zL0 (S:=S) (a0:=some (.int X)) (a1:=some (.int L)) L.toNat u L u0 (by nofun) (xh _) (.inr h1)
 have w:zBo cFr wFr [some (.int X),some (.int L),some (.int u),some (.int L)] S=_:=(zDg (n:=k) (by rw[e];exact fun z=>nomatch z)).trans e
 have gX:g ∣ X:=by
  rw[<- hu]at g1
  split at g1
  ·exact(Int.dvd_neg).mp g1
  ·exact g1
 obtain⟨px,hx⟩:=gX
 obtain⟨pl,hp⟩:=g2
 have ne:g≠0:=by nofun
 have f1:X.fdiv g=px:=by rw[hx,yz _ ne]
 have f2:L.fdiv g=pl:=by rw[hp,yz _ ne]
 have pl0:0<pl:=by
  rcases(show pl<=0\/0<pl by nofun)with z|z
  ·have:=u3 (xR g0) z;lia
  ·exact z
 have small:∀y z:Int,BB 150 y->y=g*z->BB 200 z:=fun y z hy e=>by
  have:z.natAbs<=y.natAbs:=by
   rw[e,Int.natAbs_mul]
   exact Nat.le_mul_of_pos_left _ (by nofun)
  unfold BB at *
  exact ya this (xr hy (uX (by decide) (by decide)))
 have gs:BB 150 g:=by
  have:g.natAbs<=L.natAbs:=by
   rw[hp,Int.natAbs_mul]
   exact Nat.le_mul_of_pos_right _ (by nofun)
  unfold BB at *
  lia
 have gm:sm g:=gs.sm (by decide)
 refine⟨g,px,pl,zAl rfl ?_ rfl,g0,by rw[hx,Int.mul_comm],by rw[hp,Int.mul_comm],small X px hX hx,small L pl hL hp,pl0⟩
 show zBs [some (.int X),some (.int L),none,none] S=_
 unfold zBs
 have x1:sPar [2,3] (zA0 (eCB absB (zA0 (eVar 0) aNil)) (zA0 (eVar 1) aNil)) [some (.int X),some (.int L),none,none] S=.nx [some (.int X),some (.int L),some (.int u),some (.int L)] S:=by simp_arith [ab]
 rw[sSeq,x1]
 dsimp only
 rw[sSeq,show zBo (tB (eOp gtD (eVar 3) (eC (.int 0)))) (sPar [2,3] (zA0 (eVar 3) (zA0 (eOp modD (eVar 2) (eVar 3)) aNil))) [some (.int X),some (.int L),some (.int u),some (.int L)] S=_ from w]
 dsimp only
 simp_arith [zIe g0 gm,f1,f2]
noncomputable abbrev lin0:SM:=(sSet 2 (eOp addD (eCB zJ3 (zA0 (eVar 0) aNil)) (eOp mulE (eLst (zA0 (eOp ixD (eVar 0) (eC (.int 0))) aNil)) (eCB max2B (zA0 (eC (.int 0)) (zA0 (eOp subD (eC (.int 3)) (eCB lenB (zA0 (eVar 0) aNil))) aNil))))))
theorem zYn {S:Store}{cs:List Pt}{x y l:Int}(h1:1<=cs.length) (h9:cs.length<=61):∃L,lin0 [some (.tup (cs.map cel)),some (pt3 x y l),none,none,none,none] S=.nx (E6 (.tup (cs.map cel)) L x y l none none none) S/\3<=L.length/\L.length<500/\∀p,p∈L <-> p∈cs:=by
 obtain⟨c,r,rfl⟩:=yB (show 0<cs.length by nofun)
 have m9:1000<=most:=by decide
 have ix:atL (((c::r):List Pt).map cel) 0=some (cel c):=zFg (k:=0) rfl rfl
 generalize hcs:(c::r)=cs at *
 have hn:∃n:Nat,n=3-cs.length:=⟨_,rfl⟩
 obtain⟨n,hn⟩:=hn
 have e1:max2B S [.int 0,.int (3-(cs.length:Int))]=some (.int (n:Int)):=by
  show some (D.int (if(3-(cs.length:Int)) > 0 then(3-(cs.length:Int))else 0))=_
  congr 2
  split <;> lia
 have e2:mulE S (.lst [cel c]) (.int (n:Int))=some (.lst ((List.replicate n c).map cel)):=by
  show(if [cel c]≠[]/\(0:Int)<=n/\[cel c].length*(n:Int).toNat<=most/\(n:Int)<=1000000 then some (D.lst (List.replicate (n:Int).toNat [cel c]).flatten)else none)=_
  rw[xc ⟨by simp,by nofun,by simp;lia,by nofun⟩]
  congr 2
  rw[uT,List.map_replicate]
  clear hn e1
  induction n with
  | zero=>rfl
  | succ n ih=>rw[ur,List.flatten_cons,ih,ur];rfl
 have e3:addD S (.lst (cs.map cel)) (.lst ((List.replicate n c).map cel))=some (.lst ((cs++List.replicate n c).map cel)):=by
  show(if(cs.map cel).length+((List.replicate n c).map cel).length<=most then some (D.lst (cs.map cel++(List.replicate n c).map cel))else none)=_
  rw[xc (by simp;lia),vR]
 have e4:zJ3 S [.tup (cs.map cel)]=some (.lst (cs.map cel)):=rfl
 have e5:lenB S [.tup (cs.map cel)]=some (.int (cs.length:Int)):=by rw[zF7,xn]
 refine⟨cs++List.replicate n c,?_,by simp;lia,by simp;lia,fun p=>?_⟩
 ·have a1:(eCB zJ3 (zA0 (eVar 0) aNil)) [some (.tup (cs.map cel)),some (pt3 x y l),none,none,none,none] S=.ok (.lst (cs.map cel)) S:=by simp_arith [e4]
  have a2:(eOp mulE (eLst (zA0 (eOp ixD (eVar 0) (eC (.int 0))) aNil)) (eCB max2B (zA0 (eC (.int 0)) (zA0 (eOp subD (eC (.int 3)) (eCB lenB (zA0 (eVar 0) aNil))) aNil)))) [some (.tup (cs.map cel)),some (pt3 x y l),none,none,none,none] S=.ok (.lst ((List.replicate n c).map cel)) S:=by simp_arith [e1,e2,e5,ix]
  rw[lin0,sSet,eOp,a1,Rs.bind_ok,a2,Rs.bind_ok,e3]
  rfl
 ·rw[vc]
  refine⟨fun h=>h.elim id fun h=>?_,.inl⟩
  rw[(List.mem_replicate.mp h).2,<- hcs]
  exact .head _
theorem zZ4 {S:Store}{cs:List Pt}{x y l:Int}(hb:∀p∈cs,BP p) (h1:1<=cs.length) (h9:cs.length<=61) (hx:BB 150 x) (hy:BB 150 y) (hl:BB 30 l) (l0:0<l):zBb [.tup (cs.map cel),pt3 x y l] S=.ok (.bl (decide (CL cs x y l))) S:=by
 refine zAl rfl ?_ rfl
 show(sSeq lin0 (sSeq nB (sRet (eC (.bl false))))) [some (.tup (cs.map cel)),some (pt3 x y l),none,none,none,none] S=_
 obtain⟨L,e,l3,l5,m⟩:=zYn (S:=S) (x:=x) (y:=y) (l:=l) h1 h9
 have k:Tri L x y l <-> CL cs x y l:=(zU9 l3 l0).trans ⟨fun h=>h.mono fun p hp=>(m p).mp hp,fun h=>h.mono fun p hp=>(m p).mpr hp⟩
 rw[sSeq,e]
 dsimp only
 rcases yAq (S:=S) (v:=.tup (cs.map cel)) (L:=L) (fun p hp=>hb p ((m p).mp hp)) l5 hx hy hl with⟨t,e'⟩|⟨t,env',e'⟩
 ·rw[sSeq,e',xw (k.mp t)]
 ·rw[sSeq,e',xA fun z=>t (k.mpr z)]
  simp_arith [xi]
theorem zZe {S:Store}{b:Bool}{H:List Pt}{x y l:Int}(hb:∀p∈H,BP p) (h1:1<=H.length) (hl:H.length<=61) (hx:BB 150 x) (hy:BB 150 y) (hl':BB 30 l):zB6 [.tup ((inw H).map (sdD b H)),pt3 x y l] S=.ok (.bl (decide (WiL H x y l))) S:=by
 have m9:1000<=most:=by decide
 have ne:H≠[]:=fun z=>by rw[z]at h1;simp at h1
 refine zAl rfl ?_ rfl
 show zBr [some (.tup ((inw H).map (sdD b H))),some (pt3 x y l),none,none,none] S=_
 unfold zBr
 have u:sUnp (gTup [(gName 2),(gName 3),(gName 4)]) (eVar 1) [some (.tup ((inw H).map (sdD b H))),some (pt3 x y l),none,none,none] S=.nx [some (.tup ((inw H).map (sdD b H))),some (pt3 x y l),some (.int x),some (.int y),some (.int l)] S:=by simp_arith [xi]
 rw[sSeq,u]
 dsimp only
 have gi:∀(a c:Int),geD S (.int a) (.int c)=some (.bl (decide (c<=a))):=fun _ _=>rfl
 have c:zAt 2 [4,2,3] (iVal (eVar 0)) (gTup [(gName 0),(gName 1)]) tYes (eOp geD (eOp addD (eOp mulD (eOp ixD (eVar 0) (eC (.int 0))) (eVar 3)) (eOp mulD (eOp ixD (eVar 0) (eC (.int 1))) (eVar 4))) (eOp mulD (eVar 1) (eVar 2))) [some (.tup ((inw H).map (sdD b H))),some (pt3 x y l),some (.int x),some (.int y),some (.int l)] S=.ok (.lst ((inw H).map fun s=>.bl (decide (mw s H*l<=s.1*x+s.2*y)))) S:=by
  refine zD1 (xs:=inw H) (h:=sdD b H) (gd:=[]) (fun env=>∃o o',env=[o,o',some (.int l),some (.int x),some (.int y)]) (f:=fun s=>.bl (decide (mw s H*l<=s.1*x+s.2*y))) (by simp only[iVal,eVar,xB,Rs.bind_ok,zDu,zA7]) zAq ⟨none,none,rfl⟩ (by have:=(zIb h1).1;lia) ?_
  rintro s hs env ⟨o,o',rfl⟩
  have bs:=zLw hb s hs
  have bm:=zYy hb h1 bs
  exact⟨[some (kc b s),some (.int (mw s H)),some (.int l),some (.int x),some (.int y)],by simp_arith [xi],⟨_,_,rfl⟩,by simp_arith [zLu,zLt,zAp bs.1 hx,zAp bs.2 hy,zAp bm hl',gi]⟩
 have r:((inw H).all fun s=>decide (mw s H*l<=s.1*x+s.2*y))=decide (WiL H x y l):=by
  rw[uQ,vv,uZ]
  unfold WiL
  exact⟨fun h s hs=>of_decide_eq_true (h s hs),fun h s hs=>xw (h s hs)⟩
 simp only[sRet,eCB,zA0,aNil]
 rw[c]
 simp only[Rs.bind_ok,Rs.then_ok,zTy,r,zA7]
end
end DP
namespace DP
open DS
noncomputable section
open Classical
theorem zZi {S:Store}{b:Bool}{s:Pt}:isiQ S [kc b s,.ty "tuple"]=some (.bl true):=by
 cases b
 ·exact zF9 zPq
 ·exact zF9 zS9
theorem zW8 {S:Store}{l:List D}:isiQ S [.tup l,.ty "tuple"]=some (.bl true):=zF9 zPq
theorem zW9 {S:Store}{n:Int}:isiQ S [.int n,.ty "int"]=some (.bl true):=zF9 zW7
theorem zZh {S:Store}{n:Int}:isiQ S [.int n,.ty "bool"]=some (.bl false):=zF9 zZf
noncomputable abbrev srB:SM:=(sSeq (sIf (tOr (tNot (tTru (eCB isiQ (zA0 (eVar 2) (zA0 (eC (.ty "tuple")) aNil))))) (tOr (tNot (tTru (eCB isiQ (zA0 (eVar 3) (zA0 (eC (.ty "int")) aNil))))) (tTru (eCB isiQ (zA0 (eVar 3) (zA0 (eC (.ty "bool")) aNil)))))) (sRet (eC (.bl false))) zBa)
  (sIf (tB (eOp neI (eCB minI (zA0 (zAt 2 [2] (iVal (eVar 0)) (gTup [(gName 0),(gName 1)]) tYes (eOp addD (eOp mulD (eOp ixD (eVar 2) (eC (.int 0))) (eVar 0)) (eOp mulD (eOp ixD (eVar 2) (eC (.int 1))) (eVar 1)))) aNil)) (eVar 3))) (sRet (eC (.bl false))) zBa))
noncomputable abbrev srA:SM:=(sIf (tOr (tNot (tTru (eCB isiQ (zA0 (eVar 1) (zA0 (eC (.ty "tuple")) aNil))))) (tB (eOp eqI (eCB lenB (zA0 (eVar 1) aNil)) (eC (.int 0))))) (sRet (eC (.bl false))) zBa)
theorem yA9 {S:Store}{cs H:List Pt}{b:Bool}(hu:HU cs H) (hb:∀p∈cs,BP p) (l1:1<=cs.length) (l9:cs.length<=61):zAy [.tup (cs.map cel),.tup ((inw H).map (sdD b H))] S=.ok (.bl true) S:=by
 have m9:1000<=most:=by decide
 have hH:∀p∈H,BP p:=fun p hp=>hb p (hu.sub p hp)
 refine zAl rfl ?_ rfl
 show(sSeq srA (sSeq (sFor (iVal (eVar 1)) (gTup [(gName 2),(gName 3)]) srB) (sRet (eC (.bl true))))) [some (.tup (cs.map cel)),some (.tup ((inw H).map (sdD b H))),none,none] S=_
 have a:srA [some (.tup (cs.map cel)),some (.tup ((inw H).map (sdD b H))),none,none] S=.nx [some (.tup (cs.map cel)),some (.tup ((inw H).map (sdD b H))),none,none] S:=by
  have ln:lenB S [.tup ((inw H).map (sdD b H))]=some (.int ((inw H).length:Int)):=by rw[zF7,xn]
  have ne:((inw H).length:Int)≠0:=by have:=List.length_pos_iff.mpr (zIb hu.ne).2;lia
  unfold srA
  simp_arith [tTru,zW8,tru,ln,zDm,xA ne]
 have w:iVal (eVar 1) [some (.tup (cs.map cel)),some (.tup ((inw H).map (sdD b H))),none,none] S=.ok ⟨(inw H).map (sdD b H),[]⟩ S:=by
  simp only[iVal,eVar,xB,xN,Rs.bind_ok,zDu,zA7]
 obtain⟨env',e,hi⟩:=zWl (h:=sdD b H) (gd:=[]) (g:=gTup [(gName 2),(gName 3)]) (b:=srB) (S:=S) (fun env=>∃o2 o3,env=[some (.tup (cs.map cel)),some (.tup ((inw H).map (sdD b H))),o2,o3]) zAq (inw H) _ ⟨none,none,rfl⟩ fun s hs env he=>by
  obtain⟨o2,o3,rfl⟩:=he
  have bs:=zLw hH s hs
  have c:zAt 2 [2] (iVal (eVar 0)) (gTup [(gName 0),(gName 1)]) tYes (eOp addD (eOp mulD (eOp ixD (eVar 2) (eC (.int 0))) (eVar 0)) (eOp mulD (eOp ixD (eVar 2) (eC (.int 1))) (eVar 1))) [some (.tup (cs.map cel)),some (.tup ((inw H).map (sdD b H))),some (kc b s),some (.int (mw s H))] S=.ok (.lst ((cs.map (wth s)).map D.int)) S:=by
   rw[zD1 (xs:=cs) (h:=cel) (gd:=[]) (fun env=>∃o o',env=[o,o',some (kc b s)]) (f:=fun p=>.int (wth s p)) (by simp only[iVal,eVar,xB,xN,Rs.bind_ok,zDu,zA7]) zAq ⟨none,none,rfl⟩ (by nofun) ?_]
   ·rw[xG];rfl
   ·rintro p hp env ⟨o,o',rfl⟩
    have bp:=hb p hp
    exact⟨[some (.int p.1),some (.int p.2),some (kc b s)],by simp_arith [xi],⟨_,_,rfl⟩,by simp_arith [zLu,zLt,zAp bs.1 bp.1,zAp bs.2 bp.2,wth]⟩
  have mi:=zPa (S:=S) (xs:=cs.map (wth s)) (by rw[xn];exact l9) (fun z=>by
   have:=congrArg List.length z
   rw[xn,vI]at this
   lia)
  have ne:neI S (.int (mn (cs.map (wth s)))) (.int (mw s H))=some (.bl false):=by
   rw[show mn (cs.map (wth s))=mw s H from hu.mw hs,zVt,xw rfl];rfl
  refine⟨[some (.tup (cs.map cel)),some (.tup ((inw H).map (sdD b H))),some (kc b s),some (.int (mw s H))],[some (.tup (cs.map cel)),some (.tup ((inw H).map (sdD b H))),some (kc b s),some (.int (mw s H))],by simp_arith [xi],?_,⟨_,_,rfl⟩⟩
  have g:∀E:EM,E [some (.tup (cs.map cel)),some (.tup ((inw H).map (sdD b H))),some (kc b s),some (.int (mw s H))] S=.ok (.lst ((cs.map (wth s)).map D.int)) S->(sSeq (sIf (tOr (tNot (tTru (eCB isiQ (zA0 (eVar 2) (zA0 (eC (.ty "tuple")) aNil))))) (tOr (tNot (tTru (eCB isiQ (zA0 (eVar 3) (zA0 (eC (.ty "int")) aNil))))) (tTru (eCB isiQ (zA0 (eVar 3) (zA0 (eC (.ty "bool")) aNil)))))) (sRet (eC (.bl false))) zBa)
  (sIf (tB (eOp neI (eCB minI (zA0 E aNil)) (eVar 3))) (sRet (eC (.bl false))) zBa)) [some (.tup (cs.map cel)),some (.tup ((inw H).map (sdD b H))),some (kc b s),some (.int (mw s H))] S=.nx [some (.tup (cs.map cel)),some (.tup ((inw H).map (sdD b H))),some (kc b s),some (.int (mw s H))] S:=fun E hE=>by
   simp_arith [tTru,tru,zZi,zW9,zZh,hE,mi,ne]
  exact g _ c
 rw[sSeq,a]
 dsimp only
 have f:sFor (iVal (eVar 1)) (gTup [(gName 2),(gName 3)]) srB [some (.tup (cs.map cel)),some (.tup ((inw H).map (sdD b H))),none,none] S=.nx env' S:=by
  rw[sFor,w,Rs.then_ok]
  exact e
 rw[sSeq,f]
 dsimp only
 simp_arith [xi]
end
end DP
namespace DS
noncomputable section
open Classical
theorem zQa {α β:Type}{h:α->D}{k:β->D}{gd:List (Nat × D)}{g:GM}{e:EM}{I:Env->Prop}{J:Store->Prop}{P:β->Prop}(hg:∀S,J S->gOk S gd):∀(xs:List α) (c:Nat) (env:Env) (S:Store),I env->J S->c+xs.length<=most->
  (∀a∈xs,∀env S,I env->J S->∃env' b S',g S (h a) env=some env'/\I env'/\e env' S=.ok (k b) S'/\P b/\J S')->∃(bs:List β) (S':Store),zDc gd g tYes e c (xs.map h) env S=.ok (bs.map k) S'/\bs.length=xs.length/\(∀b∈bs,P b)/\J S'
 | [],c,env,S,_,hj,_,_=>⟨[],S,by rw[vE,zDc,xc (hg S hj)];rfl,rfl,(fun b hb=>nomatch hb),hj⟩
 | a::xs,c,env,S,hi,hj,hk,he=>by
  have hk':c+(xs.length+1)<=most:=hk
  obtain⟨env',b,S1,e1,i1,e2,p,j1⟩:=he a (.head _) env S hi hj
  obtain⟨bs,S2,e3,l3,p3,j3⟩:=zQa (h:=h) (k:=k) (g:=g) (e:=e) (I:=I) (J:=J) (P:=P) hg xs (c+1) env' S1 i1 j1 (by nofun) fun a ha=>he a (.tail _ ha)
  refine⟨b::bs,S2,?_,by simp[l3],fun z hz=>?_,j3⟩
  ·rw[xt,zDc,xc ⟨hg S hj,by nofun⟩,e1]
   show(tYes env' S).bind _=_
   rw[tYes,Rs.bind_ok,xc rfl,e2,Rs.bind_ok,e3,Rs.bind_ok]
   rfl
  ·rcases xm.mp hz with rfl|z
   ·exact p
   ·exact p3 _ z
theorem zKn {α β:Type}{h:α->D}{k:β->D}{own:Nat}{ix:List Nat}{i:IM}{gd:List (Nat × D)}{g:GM}{e:EM}{S S0:Store}{env:Env}{xs:List α}(I:Env->Prop) (J:Store->Prop) (P:β->Prop) (hi:i env S0=.ok ⟨xs.map h,gd⟩ S) (hg:∀S,J S->gOk S gd) (h0:I (compEnv own ix env)) (j0:J S) (hk:xs.length<=most)
  (he:∀a∈xs,∀env S,I env->J S->∃env' b S',g S (h a) env=some env'/\I env'/\e env' S=.ok (k b) S'/\P b/\J S'):∃(bs:List β) (S':Store),zAt own ix i g tYes e env S0=.ok (.lst (bs.map k)) S'/\bs.length=xs.length/\(∀b∈bs,P b)/\J S':=by
 obtain⟨bs,S',e1,l1,p1,j1⟩:=zQa (h:=h) (k:=k) (g:=g) (e:=e) (I:=I) (J:=J) (P:=P) hg xs 0 _ S h0 j0 (by nofun) he
 refine⟨bs,S',?_,l1,p1,j1⟩
 rw[zAt,hi,Rs.bind_ok]
 rw[e1,Rs.bind_ok]
section
variable {n m c:Nat}{S S' S0:Store}{d:D}
theorem zWo (h:Deal S n m) (h':Deal S' n m) (g:Grow n m S S') (hc:S.length<=c) (hd:S'[c]?=some d) (lo:d.low S.length=true):∃S'',fin S (.ref c) S'=.ok d S''/\Deal S'' n m/\Only n m S S'':=by
 obtain⟨S'',e,a,b⟩:=zM1 h h' g lo
 refine⟨S'',?_,a,b⟩
 unfold fin at e ⊢
 by_cases k:keeps S.length S S'
 ·rw[xc k,xc lo]at e
  rw[xc k,xf (by show ¬ decide (c<S.length)=true;simpa using hc)]
  dsimp only
  rw[hd]
  dsimp only
  rw[xc lo]
  exact e
 ·rw[xf k]at e
  injection e with _ e
  have l1:=b.len
  have l2:=(xx.mp hd).1
  rw[<- e]at l1
  lia
theorem zQi {np nl:Nat}{b:SM}{ds:List D}(hl:ds.length=np) (h:b (ds.map some++List.replicate (nl-np) none) S=.rt (.ref c) S') (h0:Deal S n m) (h1:Deal S' n m) (o:Grow n m S S') (hc:S.length<=c) (hd:S'[c]?=some d) (lo:d.low S.length=true):∃S'',zB0 np nl b ds S=.ok d S''/\Deal S'' n m/\Only n m S S'':=by
 obtain⟨S'',e,a,b'⟩:=zWo h0 h1 o hc hd lo
 refine⟨S'',?_,a,b'⟩
 unfold zB0
 rw[xc hl,h]
 exact e
theorem yAy {l:List D}(h:S[c]?=some (.lst l)) (hl:l.length<1000):zB7 S (.ref c) [d]=some (.non,S.set c (.lst (l++[d]))):=by
 unfold zB7
 simp only[h]
 have m9:1000<=most:=by decide
 rw[xc (by nofun)]
theorem ty_D {l:List D}(h:S[c]?=some (.lst l)):tyD S (.ref c)=some "list":=by unfold tyD;rw[show look S (.ref c)=_ from h]
structure MkD (n m:Nat) (S0:Store) (c:Nat) (l:List D) (S:Store):Prop where
 deal:Deal S n m
 grow:Grow n m S0 S
 at_:S[c]?=some (.lst l)
 far:S0.length<=c
theorem MkD.draw {l:List D}(h0:Deal S0 n m) (h:MkD n m S0 c l S) (d:Deal S' n m) (o:Only n m S S'):MkD n m S0 c l S':=by
 have l0:=h0.lt
 have:=h.far
 exact⟨d,h.grow.trans o.grow,by rw[o.at_ c (by nofun) (by nofun)];exact h.at_,h.far⟩
theorem MkD.add {l:List D}(h0:Deal S0 n m) (h:MkD n m S0 c l S) (d:D):MkD n m S0 c (l++[d]) (S.set c (.lst (l++[d]))):=by
 have l0:=h0.lt
 have:=h.far
 exact⟨h.deal.set (by nofun) (by nofun),h.grow.set h.far,by rw[vo (xx.mp h.at_).1],h.far⟩
theorem MkD.new (h0:Deal S0 n m) (d:Deal S n m) (g:Grow n m S0 S) (l:List D):MkD n m S0 S.length l (S++[.lst l]):=⟨d.app _,g.trans (.app _),by simp,g.len⟩
end
end
end DS
namespace DP
open DS
noncomputable section
open Classical
theorem in_intsI {S:Store}{c:Nat}{l:List Int}{v:Int}(h:S[c]?=some (.lst (l.map D.int))):inI S (.int v) (.ref c)=some (.bl (decide (v∈l))):=by
 unfold inI
 rw[zS1 h]
noncomputable abbrev cCl:TM:=(tB (eOp inI (eVar 6) (eVar 4)))
noncomputable abbrev wCl:SM:=(sSet 6 (eOp modD (eOp addD (eVar 6) (eC (.int 1))) (eOp mulD (eVar 3) (eVar 3))))
theorem zL1 {S:Store}{T:Nat}{s:Int}{taken:List Int}{a0 a1 a2 a5:Option D}(hs:3<=s/\s<=2000) (hT:S[T]?=some (.lst (taken.map D.int))):∀(j:Nat) (v:Int),0<=v->v<s*s->(v+j) % (s*s) ∉ taken->(∀i:Nat,i<j->(v+i) % (s*s)∈taken)->
  zAr cCl wCl (j+1) [a0,a1,a2,some (.int s),some (.ref T),a5,some (.int v)] S=.nx [a0,a1,a2,some (.int s),some (.ref T),a5,some (.int ((v+j) % (s*s)))] S
 | j,v,h0,h1,hn,hi=>by
  have c:cCl [a0,a1,a2,some (.int s),some (.ref T),a5,some (.int v)] S=.ok (decide (v∈taken)) S:=by
   simp only[cCl,tB,eOp,eVar,xB,xN,Rs.bind_ok,in_intsI hT,zA7,asB]
  have sp:0<s*s:=vA (by nofun) (by nofun)
  have bs:BB 20 s:=BB.of (by nofun) (by nofun)
  rw[zAr,c,Rs.then_ok]
  match j,hn,hi with
  | 0,hn,_=>
   have e:(v+((0:Nat):Int)) % (s*s)=v:=by rw[Int.natCast_zero,Int.add_zero,Int.emod_eq_of_lt h0 h1]
   rw[e]at hn ⊢
   rw[xf (by simpa using hn)]
  | j+1,hn,hi=>
   have m0:v∈taken:=by
    have:=hi 0 (by nofun)
    rwa[Int.natCast_zero,Int.add_zero,Int.emod_eq_of_lt h0 h1]at this
   have w:wCl [a0,a1,a2,some (.int s),some (.ref T),a5,some (.int v)] S=.nx [a0,a1,a2,some (.int s),some (.ref T),a5,some (.int ((v+1) % (s*s)))] S:=by
    unfold wCl
    simp_arith [zAp bs bs,zBy sp]
   have sh:∀i:Nat,((v+1) % (s*s)+i) % (s*s)=(v+((i+1:Nat):Int)) % (s*s):=fun i=>by
    rw[Int.emod_add_emod];congr 1;lia
   rw[xc (xw m0),w]
   dsimp only
   rw[zL1 hs hT j _ (vy _ (by nofun)) (vx _ sp) (by rw[sh];exact hn) (fun i hi'=>by rw[sh];exact hi (i+1) (by nofun)),sh]
noncomputable abbrev bCl:SM:=(sSeq (sSet 6 (zAc zA8 (zA0 (eVar 0) (zA0 (eOp mulD (eVar 3) (eVar 3)) aNil))))
  (sSeq (zBo cCl wCl)
  (zDh (eMt "list" zB7 (eVar 4) (zA0 (eVar 6) aNil)))))
structure ICl (n m:Nat) (S0:Store) (s:Int) (a1 a2:Option D) (i:Nat) (env:Env) (S:Store):Prop where
 len:S.length=S0.length+1
 deal:Deal S n m
 grow:Grow n m S0 S
 at_:∃(taken:List Int) (a5 a6:Option D),env=[some (.ref n),a1,a2,some (.int s),some (.ref S0.length),a5,a6]/\S[S0.length]?=some (.lst (taken.map D.int))/\taken.length=i/\∀x∈taken,0<=x/\x<s*s
theorem zUd {n m:Nat}{S0 S:Store}{s:Int}{a1 a2:Option D}{i:Nat}{env:Env}{d:D}(hs:3<=s/\s<=2000) (h0:Deal S0 n m) (hi:i<8) (h:ICl n m S0 s a1 a2 i env S):∃env' S',bCl (env.set 5 (some d)) S=.nx env' S'/\ICl n m S0 s a1 a2 (i+1) env' S':=by
 obtain⟨hl,hd,hg,taken,a5,a6,rfl,hT,ht,hr⟩:=h
 have l0:=h0.lt
 have sp:9<=s*s:=by
  have:=Int.mul_le_mul hs.1 hs.1 (by nofun) (by nofun)
  lia
 have sp9:s*s<=4000000:=by
  have:=Int.mul_le_mul hs.2 hs.2 (by nofun) (by nofun)
  lia
 have bs:BB 20 s:=BB.of (by nofun) (by nofun)
 obtain⟨r,S1,e1,r0,r1,d1,o1⟩:=zKq (many:=s*s) (by nofun) (zNz (by nofun) (by nofun)) hd
 have hT1:S1[S0.length]?=some (.lst (taken.map D.int)):=by rw[o1.at_ _ (by nofun) (by nofun)];exact hT
 obtain⟨j,hj,hi'⟩:=zSg (N:=s*s) (v:=r) (taken:=taken) (by nofun) r0
 have w:=zL1 (S:=S1) (a0:=some (.ref n)) (a1:=a1) (a2:=a2) (a5:=some d) hs hT1 j r r0 r1 hj hi'
 have w':zBo cCl wCl [some (.ref n),a1,a2,some (.int s),some (.ref S0.length),some d,some (.int r)] S1=_:=(zDg (n:=j+1) (by rw[w];exact fun z=>nomatch z)).trans w
 generalize hv:(r+j) % (s*s)=v at hj w'
 have v0:0<=v/\v<s*s:=by rw[<- hv];exact⟨vy _ (by nofun),vx _ (by nofun)⟩
 have ty:tyD S1 (.ref S0.length)=some "list":=by unfold tyD;rw[show look S1 (.ref S0.length)=_ from hT1]
 have ap:zB7 S1 (.ref S0.length) [.int v]=some (.non,S1.set S0.length (.lst ((taken++[v]).map D.int))):=by
  unfold zB7
  simp only[hT1]
  have m9:100<=most:=by decide
  rw[xc (by simp;lia)]
  simp
 refine⟨[some (.ref n),a1,a2,some (.int s),some (.ref S0.length),some d,some (.int v)],S1.set S0.length (.lst ((taken++[v]).map D.int)),?_,?_,?_,?_,taken++[v],some d,some (.int v),rfl,?_,by simp[ht],?_⟩
 ·unfold bCl
  simp only[sSeq,sSet,zAc,zA0,aNil,eOp,eVar,xB,xN,v8,vQ,Rs.bind_ok,zAp bs bs,zA7,zWq,e1,Rs.then_ok,w',zDh,eMt,ty,xi,ap,zCe]
 ·simp[o1.len,hl]
 ·exact d1.set (by nofun) (by nofun)
 ·exact(hg.trans o1.grow).set (xh _)
 ·rw[vo (by rw[o1.len];lia)]
 ·intro x hx
  rcases vc.mp hx with hx|hx
  ·exact hr x hx
  ·rw[xV.mp hx];exact v0
theorem zU4 {r:Int}(r0:0<=r) (r1:r<6):∃w:Int,atL [D.int 1,D.int 2,D.int 2,D.int 3,D.int 5,D.int 900] r=some (D.int w)/\1<=w/\w<=900:=by
 rcases(show r=0\/r=1\/r=2\/r=3\/r=4\/r=5 by nofun)with z|z|z|z|z|z
 ·exact⟨1,atN (k:=0) z rfl,by decide,by decide⟩
 ·exact⟨2,atN (k:=1) z rfl,by decide,by decide⟩
 ·exact⟨2,atN (k:=2) z rfl,by decide,by decide⟩
 ·exact⟨3,atN (k:=3) z rfl,by decide,by decide⟩
 ·exact⟨5,atN (k:=4) z rfl,by decide,by decide⟩
 ·exact⟨900,atN (k:=5) z rfl,by decide,by decide⟩
theorem zSv {S:Store}{n m:Nat}{many:Int}(h:Deal S n m) (h1:1<=many) (h2:many<=6):∃(cs:List Pt) (S':Store),zC5 [.ref n,.int many] S=.ok (.lst (cs.map cel)) S'/\(cs.length:Int)=many/\(∀p∈cs,Nr 900 p)/\Deal S' n m/\Only n m S S':=by
 have l0:=h.lt
 obtain⟨r,S1,e1,r0,r1,d1,o1⟩:=zKq (many:=6) (by decide) (zXm (by decide) (by decide)) h
 have e1:zA8 [.ref n,.int 6] S=.ok (.int r) S1:=e1
 obtain⟨w,ew,w0,w9⟩:=zU4 r0 r1
 have ew:atL [D.int 1,D.int 2,D.int 2,D.int 3,D.int 5,D.int 900] r=some (D.int w):=ew
 have b2:BB 2 2:=BB.lit rfl
 have bw:BB 20 w:=BB.of (by nofun) (by nofun)
 have l1:S1.length=S.length:=o1.len
 have hs:3<=2*w+1/\2*w+1<=2000:=by nofun
 generalize hsd:2*w+1=s at hs
 have i0:ICl n m S s (some (.int many)) (some (.int w)) 0 [some (.ref n),some (.int many),some (.int w),some (.int s),some (.ref S.length),none,none] (S1++[.lst []]):=
  ⟨by simp[l1],d1.app _,o1.grow.trans (.app _),[],none,none,rfl,by rw[<- l1];simp,rfl,fun x hx=>nomatch hx⟩
 obtain⟨env',S2,e2,hl2,d2,g2,taken,a5,a6,rfl,hT,ht,hr⟩:=zKm (gd:=[]) (j:=5) (b:=bCl) (I:=ICl n m S s (some (.int many)) (some (.int w))) (fun _ _ _ _=>zAq) ((List.range many.toNat).map fun(i:Nat)=>.int (i:Int)) 0 _ _ (fun k d env S' hk hi=>by
  have:k<many.toNat:=by
   have:=(xx.mp hk).1
   simpa using this
  exact zUd hs h (by nofun) hi) i0
 rw[vO,xn,List.length_range]at ht
 have sp:0<s:=by nofun
 have cm:=comp_map (gd:=[(S.length,.lst (taken.map D.int))]) (j:=0) (e:=eTup (zA0 (eOp subD (eOp modD (eVar 0) (eVar 2)) (eVar 1)) (zA0 (eOp subD (eOp zGj (eVar 0) (eVar 2)) (eVar 1)) aNil))) (f:=fun d=>match d with|.int x=>cel (x % s-w,x.fdiv s-w)|d=>d) (S:=S2) (l:=taken.map D.int) (env:=compEnv 1 [2,3] [some (.ref n),some (.int many),some (.int w),some (.int s),some (.ref S.length),a5,a6]) (zWj hT) (by simp[compEnv]) (by
   have:100<=most:=by decide
   rw[xn];lia) fun d hd env' a=>by
  obtain⟨x,hx,rfl⟩:=xk.mp hd
  have v0:∀S,eVar 0 env' S=.ok (.int x) S:=fun S=>by unfold eVar;rw[a.at_]
  have v1:∀S,eVar 1 env' S=.ok (.int w) S:=fun S=>by unfold eVar;rw[a.o 1 (by decide)];rfl
  have v2:∀S,eVar 2 env' S=.ok (.int s) S:=fun S=>by unfold eVar;rw[a.o 2 (by decide)];rfl
  simp only[eTup,zA0,aNil,eOp,v0,v1,v2,Rs.bind_ok,zBy sp,zIe sp (zNz (x:=s) (by nofun) (by nofun)),zA7,subD]
 obtain⟨S3,e3,d3,o3⟩:=zHo (np:=2) (nl:=7) (b:=zC7) (ds:=[.ref n,.int many]) (d:=.lst ((taken.map fun x=>(x % s-w,x.fdiv s-w)).map cel)) (S':=S2) rfl (by
  have wr:=zQv hT
  have rg:=zLb (k:=many) (by nofun) (by nofun)
  show zC7 [some (.ref n),some (.int many),none,none,none,none,none] S=_
  unfold zC7
  have e2:forL [] (gName 5) bCl ((List.range many.toNat).map fun(i:Nat)=>.int (i:Int)) [some (.ref n),some (.int many),some (.int w),some (.int s),some (.ref S.length),none,none] (S1++[.lst []])=_:=e2
  simp_arith [e1,ew,eNew,zAp b2 bw,hsd,l1,sFor,zAw,rg]
  rw[e2]
  simp_arith [zAt,iVal,wr,cm]
  congr 2
  simp) h d2 g2 (zDi _)
 refine⟨taken.map fun x=>(x % s-w,x.fdiv s-w),S3,e3,by rw[xn,ht];lia,fun p hp=>?_,d3,o3⟩
 obtain⟨x,hx,rfl⟩:=xk.mp hp
 obtain⟨x0,x1⟩:=hr x hx
 have q1:=vy x (show s≠0 by nofun)
 have q2:=vx x sp
 have q3:x.fdiv s=x / s:=Int.fdiv_eq_ediv_of_nonneg x (by nofun)
 have q4:0<=x / s:=Int.ediv_nonneg x0 (by nofun)
 have q5:x / s<s:=Int.ediv_lt_of_lt_mul sp x1
 unfold Nr
 dsimp only
 rw[q3]
 lia
end
end DP
namespace DP
open DS
noncomputable section
open Classical
theorem zCu {a b:SM}{env e:Env}{S S1:Store}{r:SR}(h:a env S=.nx e S1) (h':b e S1=r):sSeq a b env S=r:=by rw[sSeq,h];exact h'
theorem zEb {S:Store}{n m:Nat}{many:Int}(h:Deal S n m) (h1:0<many) (h2:many<2 ^ 100):∃(r:Int) (S':Store),zA8 [.ref n,.int many] S=.ok (.int r) S'/\0<=r/\r<many/\Deal S' n m/\Only n m S S':=zKq h1 (zNz (by nofun) (by nofun)) h
theorem yA6 {S:Store}{r:Int}(r0:0<=r) (r1:r<5):∃x y:Int,atL [cel (1,0),cel (0,1),cel (1,1),cel (2,-1),cel (-3,5)] r=some (cel (x,y))/\-5<=x/\x<=5/\-5<=y/\y<=5:=by
 rcases(show r=0\/r=1\/r=2\/r=3\/r=4 by nofun)with z|z|z|z|z
 ·exact⟨1,0,atN (k:=0) z rfl,by decide,by decide,by decide,by decide⟩
 ·exact⟨0,1,atN (k:=1) z rfl,by decide,by decide,by decide,by decide⟩
 ·exact⟨1,1,atN (k:=2) z rfl,by decide,by decide,by decide,by decide⟩
 ·exact⟨2,-1,atN (k:=3) z rfl,by decide,by decide,by decide,by decide⟩
 ·exact⟨-3,5,atN (k:=4) z rfl,by decide,by decide,by decide,by decide⟩
noncomputable abbrev sm1:SM:=(sSet 1 (zAc zC5 (zA0 (eVar 0) (zA0 (eOp addD (eC (.int 1)) (zAc zA8 (zA0 (eVar 0) (zA0 (eC (.int 6)) aNil)))) aNil))))
noncomputable abbrev smI:EM:=(zAt 1 [0] (iVal (eVar 1)) (gName 0) tYes (zAc zA8 (zA0 (eVar 1) (zA0 (eC (.int 9)) aNil))))
noncomputable abbrev smO:EM:=(zAt 1 [2,3,1] (iVal smI) (gName 0) tYes (eTup (zA0 (eOp addD (eOp ixD (eOp ixD (eVar 3) (eC (.int 0))) (eC (.int 0))) (eOp mulD (eVar 1) (eVar 0))) (zA0 (eOp addD (eOp ixD (eOp ixD (eVar 3) (eC (.int 0))) (eC (.int 1))) (eOp mulD (eVar 2) (eVar 0))) aNil))))
noncomputable abbrev smU:SM:=(sUnp (gTup [(gName 2),(gName 3)]) (eOp ixD (eLst (zA0 (eTup (zA0 (eC (.int 1)) (zA0 (eC (.int 0)) aNil))) (zA0 (eTup (zA0 (eC (.int 0)) (zA0 (eC (.int 1)) aNil))) (zA0 (eTup (zA0 (eC (.int 1)) (zA0 (eC (.int 1)) aNil))) (zA0 (eTup (zA0 (eC (.int 2)) (zA0 (eUn negD (eC (.int 1))) aNil))) (zA0 (eTup (zA0 (eUn negD (eC (.int 3))) (zA0 (eC (.int 5)) aNil))) aNil)))))) (zAc zA8 (zA0 (eVar 0) (zA0 (eC (.int 5)) aNil)))))
noncomputable abbrev sm2:SM:=(sIf (tB (eOp eqI (zAc zA8 (zA0 (eVar 0) (zA0 (eC (.int 4)) aNil))) (eC (.int 0)))) (sSeq smU (sSet 1 smO)) zBa)
theorem zXn {S:Store}{n m:Nat}{cs:List Pt}{x y:Int}(h:Deal S n m) (l1:1<=cs.length) (l6:cs.length<=6) (nr:∀p∈cs,Nr 900 p) (hx:-5<=x/\x<=5) (hy:-5<=y/\y<=5):∃(ds:List Pt) (S':Store),smO [some (.ref n),some (.lst (cs.map cel)),some (.int x),some (.int y)] S=.ok (.lst (ds.map cel)) S'/\ds.length=cs.length/\(∀p∈ds,Nr 1000 p)/\Deal S' n m/\Only n m S S':=by
 have m9:1000<=most:=by decide
 obtain⟨ks,S1,e1,lk,pk,d1,o1⟩:=zKn (h:=cel) (k:=D.int) (own:=1) (ix:=[0]) (i:=iVal (eVar 1)) (gd:=[]) (g:=gName 0) (e:=zAc zA8 (zA0 (eVar 1) (zA0 (eC (.int 9)) aNil))) (S:=S) (S0:=S) (env:=[some (.ref n),some (.lst (cs.map cel)),some (.int x),some (.int y)]) (xs:=cs) (fun env=>∃o,env=[o,some (.ref n)]) (fun S'=>Deal S' n m/\Only n m S S') (fun k=>0<=k/\k<9) (by simp only[iVal,eVar,xB,xN,Rs.bind_ok,zEl,zA7]) (fun _ _=>zAq) ⟨none,rfl⟩ ⟨h,.refl⟩ (by nofun) (by
  rintro p hp env S2 ⟨o,rfl⟩ ⟨d2,o2⟩
  obtain⟨r,S3,q,r0,r1,d3,o3⟩:=zEb (many:=9) d2 (by decide) (by decide)
  exact⟨[some (cel p),some (.ref n)],r,S3,by simp_arith [xi],⟨_,rfl⟩,by simp_arith [q],⟨r0,r1⟩,d3,o2.trans o3⟩)
 obtain⟨c,r,rfl⟩:=yB (show 0<cs.length by nofun)
 obtain⟨n1,n2,n3,n4⟩:=nr c (.head _)
 have bx:BB 20 x:=BB.of (by nofun) (by nofun)
 have by':BB 20 y:=BB.of (by nofun) (by nofun)
 have w:iVal smI [some (.ref n),some (.lst ((c::r).map cel)),some (.int x),some (.int y)] S=.ok ⟨ks.map D.int,[]⟩ S1:=by
  rw[iVal,smI,e1]
  rfl
 obtain⟨ds,S2,e2,l2,p2,rfl⟩:=zKn (h:=D.int) (k:=cel) (own:=1) (ix:=[2,3,1]) (i:=iVal smI) (gd:=[]) (g:=gName 0) (e:=(eTup (zA0 (eOp addD (eOp ixD (eOp ixD (eVar 3) (eC (.int 0))) (eC (.int 0))) (eOp mulD (eVar 1) (eVar 0))) (zA0 (eOp addD (eOp ixD (eOp ixD (eVar 3) (eC (.int 0))) (eC (.int 1))) (eOp mulD (eVar 2) (eVar 0))) aNil)))) (S:=S1) (S0:=S) (env:=[some (.ref n),some (.lst ((c::r).map cel)),some (.int x),some (.int y)]) (xs:=ks) (fun env=>∃o,env=[o,some (.int x),some (.int y),some (.lst ((c::r).map cel))]) (fun S'=>S'=S1) (fun p=>Nr 1000 p) w (fun _ _=>zAq) ⟨none,rfl⟩ rfl (by nofun) (by
  rintro k hk env _ ⟨o,rfl⟩ rfl
  obtain⟨k0,k1⟩:=pk k hk
  have bk:BB 20 k:=BB.of (by nofun) (by nofun)
  have i0:atL ((c::r).map cel) 0=some (cel c):=zFg (k:=0) rfl rfl
  refine⟨[some (.int k),some (.int x),some (.int y),some (.lst ((c::r).map cel))],(c.1+x*k,c.2+y*k),_,by simp_arith [xi],⟨_,rfl⟩,by simp_arith [i0,zAp bx bk,zAp by' bk],?_,rfl⟩
  have t1:-45<=x*k/\x*k<=45:=by
   have a1:=vV hx.2 k0
   have a2:=vV hx.1 k0
   lia
  have t2:-45<=y*k/\y*k<=45:=by
   have a1:=vV hy.2 k0
   have a2:=vV hy.1 k0
   lia
  unfold Nr
  dsimp only
  lia)
 exact⟨ds,_,e2,l2.trans lk,p2,d1,o1⟩
theorem zXo {S:Store}{n m:Nat}{cs:List Pt}(h:Deal S n m) (l1:1<=cs.length) (l6:cs.length<=6) (nr:∀p∈cs,Nr 900 p):∃(ds:List Pt) (S':Store) (o2 o3:Option D),sm2 [some (.ref n),some (.lst (cs.map cel)),none,none] S=.nx [some (.ref n),some (.lst (ds.map cel)),o2,o3] S'/\ds.length=cs.length/\(∀p∈ds,Nr 1000 p)/\Deal S' n m/\Only n m S S':=by
 obtain⟨r,S1,q1,r0,r1,d1,o1⟩:=zEb (many:=4) h (by decide) (by decide)
 by_cases z:r=0
 ·obtain⟨t,S2,q2,t0,t1,d2,o2⟩:=zEb (many:=5) d1 (by decide) (by decide)
  obtain⟨x,y,ew,x0,x1,y0,y1⟩:=yA6 (S:=S2) t0 t1
  obtain⟨ds,S3,e3,l3,n3,d3,o3⟩:=zXn (S:=S2) (n:=n) (m:=m) (x:=x) (y:=y) d2 l1 l6 nr ⟨x0,x1⟩ ⟨y0,y1⟩
  refine⟨ds,S3,some (.int x),some (.int y),?_,l3,n3,d3,(o1.trans o2).trans o3⟩
  have ng:∀S (a:Int),negD S (.int a)=some (.int (-a)):=fun _ _=>rfl
  have u:smU [some (.ref n),some (.lst (cs.map cel)),none,none] S1=.nx [some (.ref n),some (.lst (cs.map cel)),some (.int x),some (.int y)] S2:=by
   have ew:atL [D.tup [.int 1,.int 0],D.tup [.int 0,.int 1],D.tup [.int 1,.int 1],D.tup [.int 2,.int (-1)],D.tup [.int (-3),.int 5]] t=some (D.tup [.int x,.int y]):=ew
   unfold smU
   simp_arith [q2,ng,ew]
  have s:sSet 1 smO [some (.ref n),some (.lst (cs.map cel)),some (.int x),some (.int y)] S2=.nx [some (.ref n),some (.lst (ds.map cel)),some (.int x),some (.int y)] S3:=by
   rw[sSet,e3];rfl
  have us:=zCu u s
  have c:tB (eOp eqI (zAc zA8 (zA0 (eVar 0) (zA0 (eC (.int 4)) aNil))) (eC (.int 0))) [some (.ref n),some (.lst (cs.map cel)),none,none] S=.ok true S1:=by simp_arith [q1,zDm,xw z]
  rw[sm2,sIf,c,Rs.then_ok,xc rfl]
  exact us
 ·refine⟨cs,S1,none,none,?_,rfl,fun p hp=>?_,d1,o1⟩
  ·have c:tB (eOp eqI (zAc zA8 (zA0 (eVar 0) (zA0 (eC (.int 4)) aNil))) (eC (.int 0))) [some (.ref n),some (.lst (cs.map cel)),none,none] S=.ok false S1:=by simp_arith [q1,zDm,xA z]
   rw[sm2,sIf,c,Rs.then_ok,xf (by decide)]
   rfl
  ·have:=nr p hp
   unfold Nr at *
   lia
theorem zUf {S:Store}{n m:Nat}(h:Deal S n m):∃(cs:List Pt) (S':Store),zCi [.ref n] S=.ok (.tup (cs.map cel)) S'/\1<=cs.length/\cs.length<=6/\(∀p∈cs,Nr 1000 p)/\Deal S' n m/\Only n m S S':=by
 obtain⟨r,S1,q1,r0,r1,d1,o1⟩:=zEb (many:=6) h (by decide) (by decide)
 obtain⟨cs,S2,q2,l2,n2,d2,o2⟩:=zSv (many:=1+r) d1 (by nofun) (by nofun)
 obtain⟨ds,S3,v2,v3,q3,l3,n3,d3,o3⟩:=zXo (cs:=cs) d2 (by nofun) (by nofun) n2
 have on:=(o1.trans o2).trans o3
 obtain⟨S4,e4,d4,o4⟩:=zHo (np:=1) (nl:=4) (b:=zEj) (ds:=[.ref n]) (d:=.tup (ds.map cel)) (S':=S3) rfl (by
  show(sSeq sm1 (sSeq sm2 (sRet (eCB zEm (zA0 (eVar 1) aNil))))) [some (.ref n),none,none,none] S=_
  have x1:sm1 [some (.ref n),none,none,none] S=.nx [some (.ref n),some (.lst (cs.map cel)),none,none] S2:=by
   unfold sm1
   simp_arith [q1,q2]
  have tp:zEm S3 [.lst (ds.map cel)]=some (.tup (ds.map cel)):=rfl
  refine zCu x1 (zCu q3 ?_)
  simp_arith [tp]) h d3 on.grow (zDi _)
 exact⟨ds,S4,e4,by nofun,by nofun,n3,d4,o4⟩
end
end DP
namespace DP
open DS
noncomputable section
open Classical
noncomputable abbrev Q3:=Int × Int × Int
noncomputable abbrev p3 (q:Q3):D:=pt3 q.1 q.2.1 q.2.2
noncomputable def Good (q:Q3):Prop:=(-100000<=q.1/\q.1<=100000)/\(-100000<=q.2.1/\q.2.1<=100000)/\(1<=q.2.2/\q.2.2<=20)
theorem zTk {k:Nat}:∀(l:List Q3),(D.lst (l.map p3)).low k=true
 | []=>rfl
 | q::l=>by
  show((p3 q).low k && (D.lst (l.map p3)).low k)=true
  rw[zTk l];rfl
noncomputable abbrev E9 (n:Nat) (cs:List Pt) (a b c:Pt) (o5 o6 o7 o8:Option D):Env:=[some (.ref n),some (.tup (cs.map cel)),some (cel a),some (cel b),some (cel c),o5,o6,o7,o8]
noncomputable abbrev q1:SM:=(sUnp (gTup [(gName 2),(gName 3),(gName 4)]) (zAt 1 [1,0] (zAw (zA0 (eC (.int 3)) aNil)) (gName 0) tYes (eOp ixD (eVar 1) (zAc zA8 (zA0 (eVar 2) (zA0 (eCB lenB (zA0 (eVar 1) aNil)) aNil))))))
noncomputable abbrev q2:SM:=(sSet 5 (eNew (eLst (zA0 (eTup (zA0 (eOp ixD (eVar 2) (eC (.int 0))) (zA0 (eOp ixD (eVar 2) (eC (.int 1))) (zA0 (eC (.int 1)) aNil)))) (zA0 (eTup (zA0 (eOp addD (eOp ixD (eVar 2) (eC (.int 0))) (eOp ixD (eVar 3) (eC (.int 0)))) (zA0 (eOp addD (eOp ixD (eVar 2) (eC (.int 1))) (eOp ixD (eVar 3) (eC (.int 1)))) (zA0 (eC (.int 2)) aNil)))) aNil)))))
noncomputable abbrev q4:SM:=(sSet 6 (eOp addD (eC (.int 2)) (zAc zA8 (zA0 (eVar 0) (zA0 (eC (.int 11)) aNil)))))
noncomputable abbrev q5:SM:=(sPar [7,8] (zA0 (eOp subD (zAc zA8 (zA0 (eVar 0) (zA0 (eC (.int 3)) aNil))) (eC (.int 1))) (zA0 (eOp subD (zAc zA8 (zA0 (eVar 0) (zA0 (eC (.int 3)) aNil))) (eC (.int 1))) aNil)))
theorem yAe {S:Store}{n m:Nat}{cs:List Pt}(h:Deal S n m) (l1:1<=cs.length) (l6:cs.length<=6) (nr:∀p∈cs,Nr 1000 p):∃(a b c:Pt) (S':Store),q1 [some (.ref n),some (.tup (cs.map cel)),none,none,none,none,none,none,none] S=.nx (E9 n cs a b c none none none none) S'/\Nr 1000 a/\Nr 1000 b/\Nr 1000 c/\Deal S' n m/\Only n m S S':=by
 have m9:1000<=most:=by decide
 have ln:∀S,lenB S [.tup (cs.map cel)]=some (.int (cs.length:Int)):=fun S=>by rw[zF7,xn]
 obtain⟨bs,S1,e1,lk,pk,d1,o1⟩:=zKn (h:=D.int) (k:=cel) (own:=1) (ix:=[1,0]) (i:=zAw (zA0 (eC (.int 3)) aNil)) (gd:=[]) (g:=gName 0) (e:=(eOp ixD (eVar 1) (zAc zA8 (zA0 (eVar 2) (zA0 (eCB lenB (zA0 (eVar 1) aNil)) aNil))))) (S:=S) (S0:=S) (env:=[some (.ref n),some (.tup (cs.map cel)),none,none,none,none,none,none,none]) (xs:=[0,1,2]) (fun env=>∃o,env=[o,some (.tup (cs.map cel)),some (.ref n)]) (fun S'=>Deal S' n m/\Only n m S S') (fun p=>Nr 1000 p) (by simp only[zAw,zA0,aNil,eC,Rs.bind_ok,rng3,zA7];rfl) (fun _ _=>zAq) ⟨none,rfl⟩ ⟨h,.refl⟩ (by simp;lia) (by
  rintro k hk env S2 ⟨o,rfl⟩ ⟨d2,o2⟩
  obtain⟨r,S3,q,r0,r1,d3,o3⟩:=zEb (many:=(cs.length:Int)) d2 (by nofun) (by nofun)
  have lt:r.toNat<cs.length:=by nofun
  have i0:atL (cs.map cel) r=some (cel (at0 cs r.toNat)):=zFg (k:=r.toNat) (by nofun) (zCa lt)
  exact⟨[some (.int k),some (.tup (cs.map cel)),some (.ref n)],at0 cs r.toNat,S3,by simp_arith [xi],⟨_,rfl⟩,by simp_arith [ln,q,i0],nr _ (xU (zCa lt)),d3,o2.trans o3⟩)
 obtain⟨a,b,c,rfl⟩:∃a b c,bs=[a,b,c]:=by
  match bs,lk with
  | [a,b,c],_=>exact⟨a,b,c,rfl⟩
 refine⟨a,b,c,S1,?_,pk a (by simp),pk b (by simp),pk c (by simp),d1,o1⟩
 have g:∀E:EM,E [some (.ref n),some (.tup (cs.map cel)),none,none,none,none,none,none,none] S=.ok (.lst [cel a,cel b,cel c]) S1->sUnp (gTup [(gName 2),(gName 3),(gName 4)]) E [some (.ref n),some (.tup (cs.map cel)),none,none,none,none,none,none,none] S=.nx (E9 n cs a b c none none none none) S1:=fun E hE=>by
  simp_arith [hE]
 exact g _ e1
theorem zMf {n m k:Nat}{S0 S S1:Store}{l l':List D}{env:Env}{e:EM}{d:D}(h0:Deal S0 n m) (hv:env[5]?=some (some (.ref k))) (h1:S[k]?=some (.lst l')) (he:e env S=.ok d S1) (m1:MkD n m S0 k l S1) (hl:l.length<1000):∃S2,zDh (eMt "list" zB7 (eVar 5) (zA0 e aNil)) env S=.nx env S2/\MkD n m S0 k (l++[d]) S2:=by
 refine⟨_,?_,m1.add h0 d⟩
 have v:eVar 5 env S=.ok (.ref k) S:=by unfold eVar;rw[hv]
 simp only[zDh,eMt,v,Rs.bind_ok,ty_D h1,zA0,aNil,he,yAy m1.at_ hl,zCe,xi,Rs.then_ok]
theorem seqs {a b:SM}{env e:Env}{S S1:Store}{R:SR->Prop}(h:a env S=.nx e S1) (h':R (b e S1)):R (sSeq a b env S):=by rw[sSeq,h];exact h'
theorem zKc {w l:Int}(h1:-1000<=w) (h2:w<=1000) (l0:0<=l) (l9:l<=20):-20000<=w*l/\w*l<=20000:=by
 have a1:=vV h2 l0
 have a2:=vV h1 l0
 lia
theorem zFa {x y l:Int}(h1:-100000<=x) (h2:x<=100000) (h3:-100000<=y) (h4:y<=100000) (h5:1<=l) (h6:l<=20):Good (x,y,l):=⟨⟨h1,h2⟩,⟨h3,h4⟩,h5,h6⟩
theorem sum3 {x y z:Int}(h1:-20000<=x/\x<=20000) (h2:-1000<=y/\y<=1000) (h3:-1000<=z/\z<=1000):-100000<=x+y+z/\x+y+z<=100000:=by nofun
theorem wid {x:Int}(h1:-1000<=x/\x<=1000):-20000<=x/\x<=20000:=by nofun
theorem Nr.x {p:Pt}(h:Nr 1000 p):-1000<=p.1/\p.1<=1000:=⟨h.1,h.2.1⟩
theorem Nr.y {p:Pt}(h:Nr 1000 p):-1000<=p.2/\p.2<=1000:=h.2.2
theorem Nr.b20 {x:Int}(h:-1000<=x/\x<=1000):BB 20 x:=BB.of (by nofun) (by nofun)
noncomputable abbrev pl0 (a b:Pt):List D:=[(a.1,a.2,1),(a.1+b.1,a.2+b.2,2)].map p3
theorem zOi {S:Store}{n m:Nat}{cs:List Pt}(h:Deal S n m) (l1:1<=cs.length) (l6:cs.length<=6) (nr:∀p∈cs,Nr 1000 p):∃(qs:List Q3) (S':Store),zB3 [.ref n,.tup (cs.map cel)] S=.ok (.lst (qs.map p3)) S'/\(∀q∈qs,Good q)/\Deal S' n m/\Only n m S S':=by
 obtain⟨a,b,c,S1,x1,na,nb,nc,d1,o1⟩:=yAe (S:=S) h l1 l6 nr
 obtain⟨k,S2,x2,m2⟩:∃k S2,q2 (E9 n cs a b c none none none none) S1=.nx (E9 n cs a b c (some (.ref k)) none none none) S2/\MkD n m S k (pl0 a b) S2:=⟨_,_,by unfold q2;simp_arith [eNew],MkD.new h d1 o1.grow (pl0 a b)⟩
 obtain⟨S3,x3,m3⟩:=zMf (env:=E9 n cs a b c (some (.ref k)) none none none) (e:=(eTup (zA0 (eOp addD (eOp addD (eOp ixD (eVar 2) (eC (.int 0))) (eOp ixD (eVar 3) (eC (.int 0)))) (eOp ixD (eVar 4) (eC (.int 0)))) (zA0 (eOp addD (eOp addD (eOp ixD (eVar 2) (eC (.int 1))) (eOp ixD (eVar 3) (eC (.int 1)))) (eOp ixD (eVar 4) (eC (.int 1)))) (zA0 (eC (.int 3)) aNil))))) (d:=p3 (a.1+b.1+c.1,a.2+b.2+c.2,3)) h rfl m2.at_ (by simp_arith [xi]) m2 (ym rfl)
 obtain⟨r,S4,w4,r0,r1,d4,o4⟩:=zEb (many:=11) m3.deal (by decide) (by decide)
 have m4:=m3.draw h d4 o4
 obtain⟨u,S5,w5,u0,u1,d5,o5⟩:=zEb (many:=3) m4.deal (by decide) (by decide)
 have m5:=m4.draw h d5 o5
 obtain⟨v,S6,w6,v0,v1,d6,o6⟩:=zEb (many:=3) m5.deal (by decide) (by decide)
 have m6:=m5.draw h d6 o6
 obtain⟨l,x4,l0,l9⟩:∃l,q4 (E9 n cs a b c (some (.ref k)) none none none) S3=.nx (E9 n cs a b c (some (.ref k)) (some (.int l)) none none) S4/\1<=l/\l<=20:=⟨2+r,by unfold q4;simp_arith [w4],by nofun,by nofun⟩
 obtain⟨x,y,x5,hx,hy⟩:∃x y,q5 (E9 n cs a b c (some (.ref k)) (some (.int l)) none none) S4=.nx (E9 n cs a b c (some (.ref k)) (some (.int l)) (some (.int x)) (some (.int y))) S6/\(-1000<=x/\x<=1000)/\(-1000<=y/\y<=1000):=⟨u-1,v-1,by unfold q5;simp_arith [w5,w6],by nofun,by nofun⟩
 clear w4 w5 w6 u0 u1 v0 v1 r0 r1 d4 d5 d6 o4 o5 o6 m4 m5
 have bl:BB 20 l:=Nr.b20 ⟨by nofun,by nofun⟩
 have ba1:=Nr.b20 na.x
 have ba2:=Nr.b20 na.y
 have bb2:=Nr.b20 nb.y
 obtain⟨S7,x6,m7⟩:=zMf (env:=E9 n cs a b c (some (.ref k)) (some (.int l)) (some (.int x)) (some (.int y))) (e:=(eTup (zA0 (eOp addD (eOp mulD (eOp ixD (eVar 2) (eC (.int 0))) (eVar 6)) (eVar 7)) (zA0 (eOp addD (eOp mulD (eOp ixD (eVar 2) (eC (.int 1))) (eVar 6)) (eVar 8)) (zA0 (eVar 6) aNil))))) (d:=p3 (a.1*l+x,a.2*l+y,l)) h rfl m6.at_ (by simp_arith [zAp ba1 bl,zAp ba2 bl]) m6 (ym rfl)
 obtain⟨S8,x7,m8⟩:=zMf (env:=E9 n cs a b c (some (.ref k)) (some (.int l)) (some (.int x)) (some (.int y))) (e:=(eTup (zA0 (eOp addD (eOp addD (eOp ixD (eVar 2) (eC (.int 0))) (eOp ixD (eVar 3) (eC (.int 0)))) (eVar 7)) (zA0 (eOp addD (eOp addD (eOp ixD (eVar 2) (eC (.int 1))) (eOp ixD (eVar 3) (eC (.int 1)))) (eVar 8)) (zA0 (eC (.int 2)) aNil))))) (d:=p3 (a.1+b.1+x,a.2+b.2+y,2)) h rfl m7.at_ (by simp_arith [xi]) m7 (ym rfl)
 obtain⟨t,S9,w9,t0,t1,d9,o9⟩:=zEb (many:=40) m8.deal (by decide) (by decide)
 have m9:=m8.draw h d9 o9
 obtain⟨z,SA,wA,z0,z1,dA,oA⟩:=zEb (many:=40) m9.deal (by decide) (by decide)
 have mA:=m9.draw h dA oA
 obtain⟨SB,x8,mB⟩:=zMf (env:=E9 n cs a b c (some (.ref k)) (some (.int l)) (some (.int x)) (some (.int y))) (e:=(eTup (zA0 (eOp subD (eOp addD (eOp mulD (eOp ixD (eVar 2) (eC (.int 0))) (eVar 6)) (zAc zA8 (zA0 (eVar 0) (zA0 (eC (.int 40)) aNil)))) (eC (.int 20))) (zA0 (eOp subD (eOp addD (eOp mulD (eOp ixD (eVar 3) (eC (.int 1))) (eVar 6)) (zAc zA8 (zA0 (eVar 0) (zA0 (eC (.int 40)) aNil)))) (eC (.int 20))) (zA0 (eVar 6) aNil))))) (d:=p3 (a.1*l+t-20,b.2*l+z-20,l)) h rfl m8.at_ (by simp_arith [w9,wA,zAp ba1 bl,zAp bb2 bl]) mA (ym rfl)
 obtain⟨SC,eC',dC,oC⟩:=zQi (np:=2) (nl:=9) (b:=zD7) (ds:=[.ref n,.tup (cs.map cel)]) (S:=S) (S':=SB) (c:=k) (d:=.lst ([(a.1,a.2,1),(a.1+b.1,a.2+b.2,2),(a.1+b.1+c.1,a.2+b.2+c.2,3),(a.1*l+x,a.2*l+y,l),(a.1+b.1+x,a.2+b.2+y,2),(a.1*l+t-20,b.2*l+z-20,l)].map p3)) rfl (seqs (R:=fun r=>r=_) x1 (seqs (R:=fun r=>r=_) x2 (seqs (R:=fun r=>r=_) x3 (seqs (R:=fun r=>r=_) x4 (seqs (R:=fun r=>r=_) x5 (seqs (R:=fun r=>r=_) x6 (seqs (R:=fun r=>r=_) x7 (seqs (R:=fun r=>r=_) x8 rfl)))))))) h mB.deal mB.grow mB.far mB.at_ (zTk _)
 clear x1 x2 x3 x4 x5 x6 x7 x8
 have g1:=zKc na.x.1 na.x.2 (show 0<=l by nofun) l9
 have g2:=zKc na.y.1 na.y.2 (show 0<=l by nofun) l9
 have g3:=zKc nb.y.1 nb.y.2 (show 0<=l by nofun) l9
 have zr:(-1000:Int)<=0/\(0:Int)<=1000:=by decide
 have s1:∀{w t:Int},-20000<=w/\w<=20000->0<=t->t<40->-100000<=w+t-20/\w+t-20<=100000:=fun h h' h''=>by nofun
 have s2:∀{w t:Int},-20000<=w/\w<=20000->-1000<=t/\t<=1000->-100000<=w+t/\w+t<=100000:=fun h h'=>by nofun
 refine⟨_,SC,eC',fun q hq=>?_,dC,oC⟩
 simp only[xm,xP,xQ]at hq
 rcases hq with rfl|rfl|rfl|rfl|rfl|rfl
 ·have e:=s2 (wid na.x) zr;have f:=s2 (wid na.y) zr;rw[Int.add_zero]at e f
  exact zFa e.1 e.2 f.1 f.2 (by decide) (by decide)
 ·exact zFa (s2 (wid na.x) nb.x).1 (s2 (wid na.x) nb.x).2 (s2 (wid na.y) nb.y).1 (s2 (wid na.y) nb.y).2 (by decide) (by decide)
 ·exact zFa (sum3 (wid na.x) nb.x nc.x).1 (sum3 (wid na.x) nb.x nc.x).2 (sum3 (wid na.y) nb.y nc.y).1 (sum3 (wid na.y) nb.y nc.y).2 (by decide) (by decide)
 ·exact zFa (s2 g1 hx).1 (s2 g1 hx).2 (s2 g2 hy).1 (s2 g2 hy).2 l0 l9
 ·exact zFa (sum3 (wid na.x) nb.x hx).1 (sum3 (wid na.x) nb.x hx).2 (sum3 (wid na.y) nb.y hy).1 (sum3 (wid na.y) nb.y hy).2 (by decide) (by decide)
 ·exact zFa (s1 g1 t0 t1).1 (s1 g1 t0 t1).2 (s1 g3 z0 z1).1 (s1 g3 z0 z1).2 l0 l9
end
end DP
namespace DP
open DS
noncomputable section
open Classical
theorem zNk {H:List Pt}{x y l g g' px pl py pm:Int}(l0:0<l) (g0:0<g) (g0':0<g') (hx:x=px*g) (hl:l=pl*g) (hy:y=py*g') (hl':l=pm*g'):WiQ H px pl py pm <-> WiL H x y l:=by
 have key:∀s:Pt,mw s H*(pl*pm)<=s.1*px*pm+s.2*py*pl <-> mw s H*l<=s.1*x+s.2*y:=fun s=>by
  have gg:0<g*g':=vA g0 g0'
  have e1:(mw s H*l)*l=(mw s H*(pl*pm))*(g*g'):=by
   have:l*l=(pl*g)*(pm*g'):=by rw[<- hl,<- hl']
   rw[Int.mul_assoc,this];grind
  have e2:(s.1*x+s.2*y)*l=(s.1*px*pm+s.2*py*pl)*(g*g'):=by
   have a:x*l=(px*g)*(pm*g'):=by rw[<- hx,<- hl']
   have b:y*l=(py*g')*(pl*g):=by rw[<- hy,<- hl]
   rw[Int.add_mul,Int.mul_assoc,Int.mul_assoc,a,b];grind
  constructor
  ·intro h
   have:=vV h (xR gg)
   rw[<- e1,<- e2]at this
   exact Int.le_of_mul_le_mul_right this l0
  ·intro h
   have:=vV h (xR l0)
   rw[e1,e2]at this
   exact Int.le_of_mul_le_mul_right this gg
 unfold WiQ WiL
 exact⟨fun h s hs=>(key s).mp (h s hs),fun h s hs=>(key s).mpr (h s hs)⟩
structure Al (cs H:List Pt):Prop where
 hh:∀S,zBq [.tup (cs.map cel)] S=.ok (.tup (H.map cel)) S
 hu:HU cs H
 bp:∀p∈cs,BP p
 l1:1<=cs.length
 l9:cs.length<=61
theorem Al.of {cs:List Pt}(hb:∀p∈cs,BP p) (h1:1<=cs.length) (hl:cs.length<=61):∃H,Al cs H:=by
 obtain⟨H,e,h⟩:=zWg hb h1 hl
 exact⟨H,e,h,hb,h1,hl⟩
theorem Al.hb {cs H:List Pt}(A:Al cs H):∀p∈H,BP p:=fun p hp=>A.bp p (A.hu.sub p hp)
theorem Al.h9 {cs H:List Pt}(A:Al cs H):H.length<=61:=xH A.hu.len A.l9
theorem zYx {S:Store}{b:Bool}:neB S (.bl b) (.bl b)=some (.bl false):=by
 show some (D.bl (!decide (b=b)))=_
 rw[xw rfl];rfl
theorem zZj {S:Store}{b:Bool}:isiQ S [.bl b,.ty "bool"]=some (.bl true):=zF9 zZg
section
variable {cs ds H H':List Pt}{v0 v1 o2:Option D}{b:Bool}
noncomputable abbrev Ec (v0 v1 o2:Option D) (cs ds H:List Pt) (b:Bool) (o6 o7 o8 o9 o10 o11:Option D):Env:=[v0,v1,o2,some (.tup (cs.map cel)),some (.tup ((inw H).map (sdD b H))),some (.tup (ds.map cel)),o6,o7,o8,o9,o10,o11]
noncomputable abbrev j1:SM:=(sSet 9 (zAc zBb (zA0 (eVar 3) (zA0 (eTup (zA0 (eVar 6) (zA0 (eVar 7) (zA0 (eVar 8) aNil)))) aNil))))
noncomputable abbrev j2:SM:=(sSet 10 (eTup (zA0 (zAc zAs (zA0 (eVar 6) (zA0 (eVar 8) aNil))) (zA0 (zAc zAs (zA0 (eVar 7) (zA0 (eVar 8) aNil))) aNil))))
noncomputable abbrev j3:SM:=(sSet 11 (zAc zCh (zA0 (eVar 3) (zA0 (eVar 10) aNil))))
noncomputable abbrev j4:SM:=(sIf (tOr (tNot (tTru (eCB isiQ (zA0 (eVar 11) (zA0 (eC (.ty "bool")) aNil))))) (tOr (tB (eOp neB (eVar 11) (eVar 9))) (tB (eOp neB (zAc zCh (zA0 (eVar 5) (zA0 (eVar 10) aNil))) (eVar 9))))) (sRet (eC (.bl false))) zBa)
noncomputable abbrev j5:SM:=(sIf (tB (eOp neB (zAc zB6 (zA0 (eVar 4) (zA0 (eTup (zA0 (eVar 6) (zA0 (eVar 7) (zA0 (eVar 8) aNil)))) aNil))) (eVar 9))) (sRet (eC (.bl false))) zBa)
noncomputable abbrev jB':SM:=(sSeq j1 (sSeq j2 (sSeq j3 (sSeq j4 j5))))
theorem yAs (A:Al cs H) (A':Al ds H') (sm:∀p,p∈ds <-> p∈cs) {S:Store}{q:Q3}(g:Good q) (o9 o10 o11:Option D):∃o9' o10' o11',jB' (Ec v0 v1 o2 cs ds H b (some (.int q.1)) (some (.int q.2.1)) (some (.int q.2.2)) o9 o10 o11) S=.nx (Ec v0 v1 o2 cs ds H b (some (.int q.1)) (some (.int q.2.1)) (some (.int q.2.2)) o9' o10' o11') S:=by
 obtain⟨x,y,l⟩:=q
 obtain⟨⟨g1,g2⟩,⟨g3,g4⟩,g5,g6⟩:=g
 dsimp only at *
 have bx:BB 150 x:=BB.of (by nofun) (by nofun)
 have by':BB 150 y:=BB.of (by nofun) (by nofun)
 have bl:BB 30 l:=BB.of (by nofun) (by nofun)
 obtain⟨g,px,pl,e1,g0,gx,gl,k1,k2,k3⟩:=zTm (S:=S) (X:=x) (L:=l) bx (bl.mono (by decide)) (by nofun)
 obtain⟨g',py,pm,e1',g0',gy,gl',k1',k2',k3'⟩:=zTm (S:=S) (X:=y) (L:=l) by' (bl.mono (by decide)) (by nofun)
 have c1:=zZ4 (S:=S) A.bp A.l1 A.l9 bx by' bl (by nofun)
 have w1:WiQ H px pl py pm <-> CL cs x y l:=(zNk (by nofun) g0 g0' gx gl gy gl').trans (A.hu.iff (by nofun))
 have w2:WiQ H' px pl py pm <-> CL cs x y l:=((zNk (by nofun) g0 g0' gx gl gy gl').trans (A'.hu.iff (by nofun))).trans ⟨fun h=>h.mono fun p hp=>(sm p).mp hp,fun h=>h.mono fun p hp=>(sm p).mpr hp⟩
 have i1:=zZl (S:=S) A.hh A.hb A.hu.ne A.h9 k1 k2 k1' k2' k3 k3'
 have i2:=zZl (S:=S) A'.hh A'.hb A'.hu.ne A'.h9 k1 k2 k1' k2' k3 k3'
 have i3:=zZe (S:=S) (b:=b) A.hb A.hu.ne A.h9 bx by' bl
 rw[show decide (WiQ H px pl py pm)=decide (CL cs x y l)from vS.mpr w1]at i1
 rw[show decide (WiQ H' px pl py pm)=decide (CL cs x y l)from vS.mpr w2]at i2
 rw[show decide (WiL H x y l)=decide (CL cs x y l)from vS.mpr (A.hu.iff (by nofun))]at i3
 generalize decide (CL cs x y l)=t at *
 refine⟨some (.bl t),some (.tup [frc px pl,frc py pm]),some (.bl t),?_⟩
 have x1:j1 (Ec v0 v1 o2 cs ds H b (some (.int x)) (some (.int y)) (some (.int l)) o9 o10 o11) S=.nx (Ec v0 v1 o2 cs ds H b (some (.int x)) (some (.int y)) (some (.int l)) (some (.bl t)) o10 o11) S:=by
  unfold j1
  simp_arith [c1]
 have x2:j2 (Ec v0 v1 o2 cs ds H b (some (.int x)) (some (.int y)) (some (.int l)) (some (.bl t)) o10 o11) S=.nx (Ec v0 v1 o2 cs ds H b (some (.int x)) (some (.int y)) (some (.int l)) (some (.bl t)) (some (.tup [frc px pl,frc py pm])) o11) S:=by
  unfold j2
  simp_arith [e1,e1']
 have x3:j3 (Ec v0 v1 o2 cs ds H b (some (.int x)) (some (.int y)) (some (.int l)) (some (.bl t)) (some (.tup [frc px pl,frc py pm])) o11) S=.nx (Ec v0 v1 o2 cs ds H b (some (.int x)) (some (.int y)) (some (.int l)) (some (.bl t)) (some (.tup [frc px pl,frc py pm])) (some (.bl t))) S:=by
  unfold j3
  simp_arith [i1]
 have x4:j4 (Ec v0 v1 o2 cs ds H b (some (.int x)) (some (.int y)) (some (.int l)) (some (.bl t)) (some (.tup [frc px pl,frc py pm])) (some (.bl t))) S=.nx (Ec v0 v1 o2 cs ds H b (some (.int x)) (some (.int y)) (some (.int l)) (some (.bl t)) (some (.tup [frc px pl,frc py pm])) (some (.bl t))) S:=by
  unfold j4
  simp_arith [tTru,zZj,tru,zYx,i2]
 have x5:j5 (Ec v0 v1 o2 cs ds H b (some (.int x)) (some (.int y)) (some (.int l)) (some (.bl t)) (some (.tup [frc px pl,frc py pm])) (some (.bl t))) S=.nx (Ec v0 v1 o2 cs ds H b (some (.int x)) (some (.int y)) (some (.int l)) (some (.bl t)) (some (.tup [frc px pl,frc py pm])) (some (.bl t))) S:=by
  unfold j5
  simp_arith [i3,zYx]
 exact zCu x1 (zCu x2 (zCu x3 (zCu x4 x5)))
end
noncomputable abbrev t1:SM:=(sSet 3 (zAc zCi (zA0 (eVar 1) aNil)))
noncomputable abbrev t2':SM:=(sSet 4 (zAc zBz (zA0 (eVar 3) aNil)))
noncomputable abbrev t3:SM:=(sIf (tNot (tTru (zAc zAy (zA0 (eVar 3) (zA0 (eVar 4) aNil))))) (sRet (eC (.bl false))) zBa)
noncomputable abbrev t4:SM:=(sSet 5 (eOp addD (eUn revT (eVar 3)) (eSl slD (eVar 3) pNo (pYes (eC (.int 1))))))
noncomputable abbrev t5:SM:=(sFor (iVal (zAc zB3 (zA0 (eVar 1) (zA0 (eVar 3) aNil)))) (gTup [(gName 6),(gName 7),(gName 8)]) jB')
noncomputable abbrev tB':SM:=(sSeq t1 (sSeq t2' (sSeq t3 (sSeq t4 t5))))
structure IT (v0:Option D) (i:Nat) (env:Env) (S:Store):Prop where
 deal:Deal S 0 1
 ex:∃o2 o3 o4 o5 o6 o7 o8 o9 o10 o11,env=[v0,some (.ref 0),o2,o3,o4,o5,o6,o7,o8,o9,o10,o11]
theorem zNq {v0:Option D}{i:Nat}{env:Env}{S:Store}{d:D}(h:IT v0 i env S):∃env' S',tB' (env.set 2 (some d)) S=.nx env' S'/\IT v0 (i+1) env' S':=by
 obtain⟨dl,o2,o3,o4,o5,o6,o7,o8,o9,o10,o11,rfl⟩:=h
 have m9:1000<=most:=by decide
 obtain⟨cs,S1,e1,l1,l6,nr,d1,_⟩:=zUf dl
 have bp:∀p∈cs,BP p:=fun p hp=>(nr p hp).bp (by decide)
 obtain⟨H,A⟩:=Al.of bp l1 (by nofun)
 have hn:cs.map cel≠[]:=fun z=>by
  have:=congrArg List.length z
  rw[xn,vI]at this
  lia
 obtain⟨ds,hds⟩:∃ds,ds=cs.reverse++cs.take 1:=⟨_,rfl⟩
 have sm:∀p,p∈ds <-> p∈cs:=fun p=>by
  rw[hds,vc,vT]
  exact⟨fun h=>h.elim id List.mem_of_mem_take,.inl⟩
 have lds:ds.length=cs.length+1:=by rw[hds];simp;lia
 obtain⟨H',A'⟩:=Al.of (cs:=ds) (fun p hp=>bp p ((sm p).mp hp)) (by nofun) (by nofun)
 obtain⟨qs,S2,e2,gq,d2,_⟩:=zOi d1 l1 l6 nr
 have s1:=zL8 (S:=S1) A.hh A.hb A.hu.ne A.h9
 have s2:=yA9 (S:=S1) (b:=decide (H.length=1)) A.hu bp l1 (by nofun)
 generalize decide (H.length=1)=b at *
 have rv:revT S1 (.tup (cs.map cel))=some (.tup (cs.reverse.map cel)):=by
  show some (D.tup (cs.map cel).reverse)=_
  rw[List.map_reverse]
 have sl:slD S1 (.tup (cs.map cel)) none (some 1)=some (.tup ((cs.take 1).map cel)):=by
  show some (D.tup (cutL (cs.map cel) none (some 1)))=_
  rw[yA1 hn,List.map_take]
 have ad:addD S1 (.tup (cs.reverse.map cel)) (.tup ((cs.take 1).map cel))=some (.tup (ds.map cel)):=by
  show(if cs.reverse.map cel≠[]/\(cs.reverse.map cel).length+((cs.take 1).map cel).length<=most then some (D.tup (cs.reverse.map cel++(cs.take 1).map cel))else none)=_
  rw[xc ⟨fun z=>by
   have:=congrArg List.length z
   rw[xn,uz,vI]at this
   lia,by simp;lia⟩,hds,vR]
 have x1:t1 [v0,some (.ref 0),some d,o3,o4,o5,o6,o7,o8,o9,o10,o11] S=.nx [v0,some (.ref 0),some d,some (.tup (cs.map cel)),o4,o5,o6,o7,o8,o9,o10,o11] S1:=by
  unfold t1
  simp_arith [e1]
 have x2:t2' [v0,some (.ref 0),some d,some (.tup (cs.map cel)),o4,o5,o6,o7,o8,o9,o10,o11] S1=.nx [v0,some (.ref 0),some d,some (.tup (cs.map cel)),some (.tup ((inw H).map (sdD b H))),o5,o6,o7,o8,o9,o10,o11] S1:=by
  unfold t2'
  simp_arith [s1]
 have x3:t3 [v0,some (.ref 0),some d,some (.tup (cs.map cel)),some (.tup ((inw H).map (sdD b H))),o5,o6,o7,o8,o9,o10,o11] S1=.nx [v0,some (.ref 0),some d,some (.tup (cs.map cel)),some (.tup ((inw H).map (sdD b H))),o5,o6,o7,o8,o9,o10,o11] S1:=by
  unfold t3
  simp_arith [tTru,s2,tru]
 have x4:t4 [v0,some (.ref 0),some d,some (.tup (cs.map cel)),some (.tup ((inw H).map (sdD b H))),o5,o6,o7,o8,o9,o10,o11] S1=.nx (Ec v0 (some (.ref 0)) (some d) cs ds H b o6 o7 o8 o9 o10 o11) S1:=by
  unfold t4
  simp only[sSet,eOp,eUn,eSl,pNo,pYes,eC,asI,eVar,xB,xN,Rs.bind_ok,Rs.then_ok,zA7,vz,rv,sl,ad,v8,vQ]
 have w:iVal (zAc zB3 (zA0 (eVar 1) (zA0 (eVar 3) aNil))) (Ec v0 (some (.ref 0)) (some d) cs ds H b o6 o7 o8 o9 o10 o11) S1=.ok ⟨qs.map p3,[]⟩ S2:=by
  have e2:zB3 [.ref 0,.tup (cs.map cel)] S1=.ok (.lst (qs.map p3)) S2:=e2
  simp only[iVal,zAc,zA0,aNil,eVar,xB,xN,Rs.bind_ok,e2,zEl,zA7]
 obtain⟨env',e,hi⟩:=zWl (h:=p3) (gd:=[]) (g:=gTup [(gName 6),(gName 7),(gName 8)]) (b:=jB') (S:=S2) (fun env=>∃o6 o7 o8 o9 o10 o11,env=Ec v0 (some (.ref 0)) (some d) cs ds H b o6 o7 o8 o9 o10 o11) zAq qs _ ⟨_,_,_,_,_,_,rfl⟩ fun q hq env he=>by
  obtain⟨o6,o7,o8,o9,o10,o11,rfl⟩:=he
  obtain⟨o9',o10',o11',e⟩:=yAs (v0:=v0) (v1:=some (.ref 0)) (o2:=some d) (b:=b) (S:=S2) A A' sm (gq q hq) o9 o10 o11
  exact⟨Ec v0 (some (.ref 0)) (some d) cs ds H b (some (.int q.1)) (some (.int q.2.1)) (some (.int q.2.2)) o9 o10 o11,_,by simp_arith [xi],e,_,_,_,_,_,_,rfl⟩
 obtain⟨p6,p7,p8,p9,p10,p11,rfl⟩:=hi
 have x5:t5 (Ec v0 (some (.ref 0)) (some d) cs ds H b o6 o7 o8 o9 o10 o11) S1=.nx (Ec v0 (some (.ref 0)) (some d) cs ds H b p6 p7 p8 p9 p10 p11) S2:=by
  unfold t5
  rw[sFor,w,Rs.then_ok]
  exact e
 exact⟨_,S2,zCu x1 (zCu x2 (zCu x3 (zCu x4 x5))),d2,_,_,_,_,_,_,_,_,_,_,rfl⟩
theorem law_ok (ns:List Int) (h:ns.length<=63):∃S,zN4 [.klst (ns.map .int)] []=.ok (.bl true) S:=by
 obtain⟨S1,e1,d1,_,_⟩:=zSp (S:=[]) h
 rw[<- zWu]at e1
 have e1:zBh [.klst (ns.map .int)] []=.ok (.ref 0) S1:=e1
 obtain⟨env',S2,e2,_⟩:=zKm (gd:=[]) (j:=2) (b:=tB') (I:=IT (some (.klst (ns.map .int)))) (fun _ _ _ _=>zAq) [.int 0,.int 1,.int 2] 0 [some (.klst (ns.map .int)),some (.ref 0),none,none,none,none,none,none,none,none,none,none] S1 (fun k d env S' hk hi=>zNq hi) ⟨d1,_,_,_,_,_,_,_,_,_,_,rfl⟩
 refine⟨[],?_⟩
 unfold zN4 zB0
 rw[xc (show [D.klst (ns.map .int)].length=1 from rfl)]
 suffices hb':zX1 ([D.klst (ns.map .int)].map some++List.replicate (12-1) none) []=.rt (.bl true) S2 by rw[hb'];exact zWn
 show(sSeq (sSet 1 (zAc zBh (zA0 (eVar 0) aNil))) (sSeq (sFor (zAw (zA0 (eC (.int 3)) aNil)) (gName 2) tB') (sRet (eC (.bl true))))) [some (.klst (ns.map .int)),none,none,none,none,none,none,none,none,none,none,none] []=_
 have x1:sSet 1 (zAc zBh (zA0 (eVar 0) aNil)) [some (.klst (ns.map .int)),none,none,none,none,none,none,none,none,none,none,none] []=.nx [some (.klst (ns.map .int)),some (.ref 0),none,none,none,none,none,none,none,none,none,none] S1:=by simp_arith [e1]
 have x2:sFor (zAw (zA0 (eC (.int 3)) aNil)) (gName 2) tB' [some (.klst (ns.map .int)),some (.ref 0),none,none,none,none,none,none,none,none,none,none] S1=.nx env' S2:=by
  have w:zAw (zA0 (eC (.int 3)) aNil) [some (.klst (ns.map .int)),some (.ref 0),none,none,none,none,none,none,none,none,none,none] S1=.ok ⟨[.int 0,.int 1,.int 2],[]⟩ S1:=by
   simp only[zAw,zA0,aNil,eC,Rs.bind_ok,rng3,zA7]
  rw[sFor,w,Rs.then_ok]
  exact e2
 exact zCu x1 (zCu x2 rfl)
end
end DP
namespace Law
open PySem PySem.Spec PyProof.Rows L2
noncomputable abbrev n_0:List Str:=["corners","ways","slopes"]
noncomputable abbrev n_1:List Str:=["slope","number","point"]
noncomputable abbrev n_2:List Str:=["_law_script","_law_some_here","_law_number","_law_one"]
noncomputable abbrev n_3:List Str:=["_law_deal_here","_law_many","_law_wide","_law_side","_law_taken","_law_turn_here","_law_number"]
noncomputable abbrev n_4:List Str:=["_law_number","_law_wide","_law_side"]
noncomputable abbrev n_5:List Str:=["_law_some_here","_law_point","_law_turns","_law_x","_law_y","_law_lower","_law_across","_law_up"]
noncomputable abbrev n_6:List Str:=["_law_k","_law_point","_law_some_here"]
noncomputable abbrev n_7:List Str:=["_law_deal_here","_law_cells_here","_law_x","_law_y"]
noncomputable abbrev n_8:List Str:=["_law_x","_law_y","_law_cells_here"]
noncomputable abbrev n_9:List Str:=["_law_k","_law_x","_law_y","_law_cells_here"]
noncomputable abbrev n_10:List Str:=["_law_deal_here","_law_cells_here","_law_one","_law_other","_law_third","_law_found","_law_lower","_law_across","_law_up"]
noncomputable abbrev n_11:List Str:=["_law_turn_here","_law_cells_here","_law_deal_here"]
noncomputable abbrev n_12:List Str:=["_law_sides","_law_point","_law_x","_law_y","_law_lower"]
noncomputable abbrev n_13:List Str:=["_law_lower","_law_x","_law_y"]
noncomputable abbrev n_14:List Str:=["_law_slope","_law_number","_law_lower","_law_x","_law_y"]
noncomputable abbrev n_15:List Str:=["_law_cells_here","_law_sides","_law_slope","_law_number"]
noncomputable abbrev n_16:List Str:=["_law_x","_law_y","_law_slope"]
noncomputable abbrev n_17:List Str:=["_law_one","_law_other","_law_point"]
noncomputable abbrev n_18:List Str:=["one","other","point"]
noncomputable abbrev n_19:List Str:=["one","other","third"]
noncomputable abbrev n_20:List Str:=["one","other","rest"]
noncomputable abbrev n_21:List Str:=["_law_deal_here","_law_many","_law_number","_law_one","_law_other"]
noncomputable abbrev n_22:List Str:=["_law_one","_law_other","_law_point","_law_x","_law_y","_law_lower","_law_ahead"]
noncomputable abbrev n_23:List Str:=["_law_upper","_law_lower","_law_one","_law_other"]
noncomputable abbrev n_24:List Str:=["upper","lower","divisor"]
noncomputable abbrev n_25:List Str:=["one","other","point","along","up"]
noncomputable abbrev n_26:List Str:=["_law_cells_here","_law_point","_law_some_here","_law_k","_law_j","_law_i"]
noncomputable abbrev n_27:List Str:=["slope","point","along","up"]
noncomputable abbrev n_28:List Str:=["cells","corners","cell"]
noncomputable abbrev n_29:List Str:=["cells","rising","there","back"]
noncomputable abbrev n_30:List Str:=["_law_script","_law_deal_here","_law_turn_here","_law_cells_here","_law_sides","_law_more","_law_x","_law_y","_law_lower","_law_due","_law_point","_law_found"]
noncomputable def top (i:Nat):Stmt:=PySem.Challenge.pw_healfloor_k72_points_in_hulls.main.body.getD i (.Pass ⟨0,0,0,0⟩)
structure Txt (K:PySem.W.Frag) (mg:Str->Option Value):Prop where
 b_abs:mg "abs"=none
 b_all:mg "all"=none
 b_bool:mg "bool"=none
 b_int:mg "int"=none
 b_isinstance:mg "isinstance"=none
 b_len:mg "len"=none
 b_list:mg "list"=none
 b_max:mg "max"=none
 b_min:mg "min"=none
 b_range:mg "range"=none
 b_reversed:mg "reversed"=none
 b_set:mg "set"=none
 b_sorted:mg "sorted"=none
 b_tuple:mg "tuple"=none
 b_zip:mg "zip"=none
 c_ALL_WAYS:∃u,mg "ALL_WAYS"=some u/\KRep K (.ktup [(.ktup [(.int 1),(.int 0)]),(.ktup [(.int 0),(.int 1)]),(.ktup [(.int (-1)),(.int 0)]),(.ktup [(.int 0),(.int (-1))])]) u
section
variable (P:Program) (w:World) (K:PySem.W.Frag) (mg:Str->Option Value) (base:Heap)
noncomputable abbrev zDb:Prop:=Cal P w K mg base "common_divisor" 1 ["one","other"] (spOf K XE0 DP.zBe)
noncomputable abbrev zJu:Prop:=Cal P w K mg base "is_less" 1 ["one","other"] (spOf K XE0 DP.zDl)
noncomputable abbrev zHq:Prop:=Cal P w K mg base "point_of" 1 ["cell"] (spOf K XE0 DP.zE6)
noncomputable abbrev zQp:Prop:=Cal P w K mg base "worth" 1 ["slope","cell"] (spOf K XE0 DP.zFc)
noncomputable abbrev zJr:Prop:=Cal P w K mg base "sign_of" 1 ["number"] (spOf K XE0 DP.zEw)
noncomputable abbrev zFo:Prop:=Cal P w K mg base "neighbours" 1 ["ring"] (spOf K XE0 DP.zC3)
noncomputable abbrev zH3:Prop:=Cal P w K mg base "_law_deal" 1 ["_law_script"] (spOf K XE0 DP.zBh)
noncomputable abbrev zD9:Prop:=Cal P w K mg base "_law_draw" 1 ["_law_deal_here","_law_many"] (spOf K XE0 DP.zA8)
noncomputable abbrev zH1:Prop:=Cal P w K mg base "_law_turn" 1 n_17 (spOf K XE0 DP.zC0)
noncomputable abbrev zDt:Prop:=Cal P w K mg base "_law_fraction" 1 ["_law_upper","_law_lower"] (spOf K XE0 DP.zAs)
noncomputable abbrev zDs:Prop:=Cal P w K mg base "_law_is_worth" 1 ["_law_sides","_law_point"] (spOf K XE0 DP.zB6)
noncomputable abbrev zCq:Prop:=Cal P w K mg base "_law_sides_right" 1 ["_law_cells_here","_law_sides"] (spOf K XE0 DP.zAy)
noncomputable abbrev zFi:Prop:=Cal P w K mg base "fraction" 2 ["upper","lower"] (spOf K XE0 DP.zCx)
noncomputable abbrev zJt:Prop:=Cal P w K mg base "side_at" 2 n_18 (spOf K XE0 DP.zEx)
noncomputable abbrev zMh:Prop:=Cal P w K mg base "inward" 2 ["corners"] (spOf K XE0 DP.zEy)
noncomputable abbrev zFr:Prop:=Cal P w K mg base "_law_cells" 2 ["_law_deal_here","_law_many"] (spOf K XE0 DP.zC5)
noncomputable abbrev zFq:Prop:=Cal P w K mg base "_law_is_in" 2 ["_law_some_here","_law_point"] (spOf K XE0 DP.zC4)
noncomputable abbrev zF3:Prop:=Cal P w K mg base "_law_points" 2 ["_law_deal_here","_law_cells_here"] (spOf K XE0 DP.zB3)
noncomputable abbrev zQr:Prop:=Cal P w K mg base "added" 3 ["one","other"] (spOf K XE0 DP.zIf)
noncomputable abbrev zQq:Prop:=Cal P w K mg base "times" 3 ["one","other"] (spOf K XE0 DP.zGk)
noncomputable abbrev zJs:Prop:=Cal P w K mg base "side_of" 3 n_19 (spOf K XE0 DP.zCw)
noncomputable abbrev zEf:Prop:=Cal P w K mg base "_law_in_hull" 3 ["_law_cells_here","_law_point"] (spOf K XE0 DP.zBb)
noncomputable abbrev zH2:Prop:=Cal P w K mg base "_law_some" 3 ["_law_deal_here"] (spOf K XE0 DP.zCi)
noncomputable abbrev zHp:Prop:=Cal P w K mg base "worth_at" 4 ["slope","point"] (spOf K XE0 DP.zCv)
noncomputable abbrev zFp:Prop:=Cal P w K mg base "left_turns" 4 ["cells"] (spOf K XE0 DP.zBk)
noncomputable abbrev zJw:Prop:=Cal P w K mg base "hull_of" 5 ["cells"] (spOf K XE0 DP.zBq)
noncomputable abbrev zFh:Prop:=Cal P w K mg base "sides_of" 6 ["cells"] (spOf K XE0 DP.zBz)
noncomputable abbrev zJv:Prop:=Cal P w K mg base "in_hull" 7 ["cells","point"] (spOf K XE0 DP.zCh)
end
section
variable {P:Program}{w:World}{K:PySem.W.Frag}{mg:Str->Option Value}{base:Heap}
noncomputable abbrev zBd:Stmt:=top 1
theorem sc_common_divisor:zAk n_20 ["one","other"] (zA6 zBd):=⟨rfl,rfl,rfl,by decide +kernel,rfl,by decide +kernel,by decide +kernel⟩
theorem zF6 {f:Addr}{fd:FuncData}(F:Fun K "common_divisor" "common_divisor" zBd f fd) (T:Txt K mg):FnOk P w K mg base CX0 1 f fd ["one","other"] (spOf K XE0 DP.zBe):=by
 refine fn_d (k:=0) (b:=DP.zBf) F sc_common_divisor rfl rfl fun cdv A outer s H E hr=>?_
 have hu:=zBp hr
 have hu64:=hr.units
 have hu1:=hr.units0
 have nd:=sc_common_divisor.nd
 exact(zA5 (zAi (j:=0) nd rfl (by first|exact Or.inl rfl|exact Or.inr rfl) (zBt zGr rfl T.b_abs PyProof.Rows.boot_abs (zA2 (zA1 0) zA4)))
   (zA5 (zAi (j:=1) nd rfl (by first|exact Or.inl rfl|exact Or.inr rfl) (zBt zGr rfl T.b_abs PyProof.Rows.boot_abs (zA2 (zA1 1) zA4)))
   (zA5 (zDn vn (zFn (zA1 1)) (zA5 (zAi (j:=2) nd rfl (by first|exact Or.inl rfl|exact Or.inr rfl) (zAa zBx (zA1 0) (zA1 1)))
   (zA5 (zAi (j:=0) nd rfl (by first|exact Or.inl rfl|exact Or.inr rfl) (zA1 1))
   (zA9 (zAi (j:=1) nd rfl (by first|exact Or.inl rfl|exact Or.inr rfl) (zA1 2))))))
   (zA9 (zAg (zA1 0))))))
noncomputable abbrev zEq:Stmt:=top 5
theorem sc_is_less:zAk ["one","other"] ["one","other"] (zA6 zEq):=⟨rfl,rfl,rfl,by decide +kernel,rfl,by decide +kernel,by decide +kernel⟩
theorem zMu {f:Addr}{fd:FuncData}(F:Fun K "is_less" "is_less" zEq f fd) (T:Txt K mg):FnOk P w K mg base CX0 1 f fd ["one","other"] (spOf K XE0 DP.zDl):=by
 refine fn_d (k:=0) (b:=DP.zGx) F sc_is_less rfl rfl fun cdv A outer s H E hr=>?_
 have hu:=zBp hr
 have hu64:=hr.units
 have hu1:=hr.units0
 have nd:=sc_is_less.nd
 exact(zA9 (zAg (zTt zLf (zAa zAf (zAb (ix_D hu) (zA1 0) zA3) (zAb (ix_D hu) (zA1 1) zA3)) (zAa zAf (zAb (ix_D hu) (zA1 1) zA3) (zAb (ix_D hu) (zA1 0) zA3)) (nomark _))))
noncomputable abbrev zDx:Stmt:=top 7
theorem sc_point_of:zAk ["cell"] ["cell"] (zA6 zDx):=⟨rfl,rfl,rfl,by decide +kernel,rfl,by decide +kernel,by decide +kernel⟩
theorem zK9 {f:Addr}{fd:FuncData}(F:Fun K "point_of" "point_of" zDx f fd) (T:Txt K mg):FnOk P w K mg base CX0 1 f fd ["cell"] (spOf K XE0 DP.zE6):=by
 refine fn_d (k:=0) (b:=DP.zFf) F sc_point_of rfl rfl fun cdv A outer s H E hr=>?_
 have hu:=zBp hr
 have hu64:=hr.units
 have hu1:=hr.units0
 have nd:=sc_point_of.nd
 exact(zA9 (zAg (zAz (zA2 (zAz (zA2 (zAb (ix_D hu) (zA1 0) zA3) (zA2 zA3 zA4))) (zA2 (zAz (zA2 (zAb (ix_D hu) (zA1 0) zA3) (zA2 zA3 zA4))) zA4)))))
noncomputable abbrev zI2:Stmt:=top 8
theorem sc_worth:zAk ["slope","cell"] ["slope","cell"] (zA6 zI2):=⟨rfl,rfl,rfl,by decide +kernel,rfl,by decide +kernel,by decide +kernel⟩
theorem zRu {f:Addr}{fd:FuncData}(F:Fun K "worth" "worth" zI2 f fd) (T:Txt K mg):FnOk P w K mg base CX0 1 f fd ["slope","cell"] (spOf K XE0 DP.zFc):=by
 refine fn_d (k:=0) (b:=DP.zIn) F sc_worth rfl rfl fun cdv A outer s H E hr=>?_
 have hu:=zBp hr
 have hu64:=hr.units
 have hu1:=hr.units0
 have nd:=sc_worth.nd
 exact(zA9 (zAg (zAa zAj (zAa zAf (zAb (ix_D hu) (zA1 0) zA3) (zAb (ix_D hu) (zA1 1) zA3)) (zAa zAf (zAb (ix_D hu) (zA1 0) zA3) (zAb (ix_D hu) (zA1 1) zA3)))))
noncomputable abbrev zEn:Stmt:=top 10
theorem sc_sign_of:zAk ["number"] ["number"] (zA6 zEn):=⟨rfl,rfl,rfl,by decide +kernel,rfl,by decide +kernel,by decide +kernel⟩
theorem zMr {f:Addr}{fd:FuncData}(F:Fun K "sign_of" "sign_of" zEn f fd) (T:Txt K mg):FnOk P w K mg base CX0 1 f fd ["number"] (spOf K XE0 DP.zEw):=by
 refine fn_d (k:=0) (b:=DP.zGu) F sc_sign_of rfl rfl fun cdv A outer s H E hr=>?_
 have hu:=zBp hr
 have hu64:=hr.units
 have hu1:=hr.units0
 have nd:=sc_sign_of.nd
 exact(zA5 (zCj (zB8 zHc (zA1 0) zA3 (nomark _)) (zA9 (zAg zA3)) zBi)
   (zA5 (zCj (zB8 zLf (zA1 0) zA3 (nomark _)) (zA9 (zAg (zH9 zCr zA3))) zBi)
   (zA9 (zAg zA3))))
noncomputable abbrev zCk:Stmt:=top 19
theorem sc_neighbours:zAk ["ring"] ["ring"] (zA6 zCk):=⟨rfl,rfl,rfl,by decide +kernel,rfl,by decide +kernel,by decide +kernel⟩
theorem zI5 {f:Addr}{fd:FuncData}(F:Fun K "neighbours" "neighbours" zCk f fd) (T:Txt K mg):FnOk P w K mg base CX0 1 f fd ["ring"] (spOf K XE0 DP.zC3):=by
 refine fn_d (k:=0) (b:=DP.zCn) F sc_neighbours rfl rfl fun cdv A outer s H E hr=>?_
 have hu:=zBp hr
 have hu64:=hr.units
 have hu1:=hr.units0
 have nd:=sc_neighbours.nd
 exact(zA9 (zAg (zCs (zN9 rfl (zA2 (zA1 0) (zA2 (zAa zAj (zNa sl_D (zA1 0) (zHi zA3) zN8) (zNa sl_D (zA1 0) zN8 (zHi zA3))) zA4)) rfl T.b_list rfl T.b_zip))))
noncomputable abbrev zBw:Stmt:=top 22
theorem sc__law_deal:zAk n_2 ["_law_script"] (zA6 zBw):=⟨rfl,rfl,rfl,by decide +kernel,rfl,by decide +kernel,by decide +kernel⟩
theorem zJ2 {f:Addr}{fd:FuncData}(F:Fun K "_law_deal" "_law_deal" zBw f fd) (T:Txt K mg):FnOk P w K mg base CX0 1 f fd ["_law_script"] (spOf K XE0 DP.zBh):=by
 refine fn_r (k:=0) (b:=DP.zGz) F sc__law_deal rfl rfl fun cdv A outer s H E hr=>?_
 have hu:=zBp hr
 have hu64:=hr.units
 have hu1:=hr.units0
 have nd:=sc__law_deal.nd
 exact(zA5 (zG3 (j:=1) nd rfl (by first|exact Or.inl rfl|exact Or.inr rfl) rfl (CompScope.mk' (sc:=zA6 zBw) (N:=n_2) (own:=["_law_one"]) (fre:=[]) (ix:=[]) rfl rfl (by decide +kernel)) (zBu (zNa sl_D (zA1 0) zN8 (zHi zA3))) (fun cl C s0 H0 fp=>(zAd (j:=0) (show List.Nodup (["_law_one"]:List Str) by decide +kernel) rfl (Or.inl rfl) (Or.inr rfl))) (fun cl C s0 H0 fp=>zBj) (fun cl C s0 H0 fp=>(zBt (zHm rfl) rfl T.b_max yn (zA2 (zA1 0) (zA2 (zAa zB1 zA3 (zA1 0)) zA4)))))
   (zA5 (zAi (j:=2) nd rfl (by first|exact Or.inl rfl|exact Or.inr rfl) zA3)
   (zA5 (zD2 vn rfl (zBu (zA1 1)) (zAd (j:=3) nd rfl (by first|exact Or.inl rfl|exact Or.inr rfl)) (zA9 (zAi (j:=2) nd rfl (by first|exact Or.inl rfl|exact Or.inr rfl) (zAa zBx (zAa zAj (zAa zAf (zA1 2) zA3) (zAa zBx (zA1 3) zA3)) zA3))))
   (zA9 (zAg (zWw (zIg (zA1 2) (zIg zA3 (zIg (zM5 (zHj rfl (zCs (zC9 rfl (CompScope.mk' (sc:=zA6 zBw) (N:=n_2) (own:=["_law_one"]) (fre:=[]) (ix:=[]) rfl rfl (by decide +kernel)) (zBu (zA1 1)) (fun cl C s0 H0 fp=>(zAd (j:=0) (show List.Nodup (["_law_one"]:List Str) by decide +kernel) rfl (Or.inl rfl) (Or.inr rfl))) (fun cl C s0 H0 fp=>(zWt (zB8 zTf (zA1 0) (zAa zVm zA3 zA3) (nomark _)))) (fun cl C s0 H0 fp=>(zA1 0)))) rfl T.b_list rfl T.b_reversed)) zWr))) rfl (by decide +kernel)))))))
noncomputable abbrev zD0:Stmt:=top 23
theorem sc__law_draw:zAk n_21 ["_law_deal_here","_law_many"] (zA6 zD0):=⟨rfl,rfl,rfl,by decide +kernel,rfl,by decide +kernel,by decide +kernel⟩
theorem zJ1 {f:Addr}{fd:FuncData}(F:Fun K "_law_draw" "_law_draw" zD0 f fd) (T:Txt K mg):FnOk P w K mg base CX0 1 f fd ["_law_deal_here","_law_many"] (spOf K XE0 DP.zA8):=by
 refine fn_d (k:=0) (b:=DP.zGy) F sc__law_draw rfl rfl fun cdv A outer s H E hr=>?_
 have hu:=zBp hr
 have hu64:=hr.units
 have hu1:=hr.units0
 have nd:=sc__law_draw.nd
 exact(zA5 (zDn vn (dt_w (zQ3 (zB8 zIy (zAb (ix_D hu) (zA1 0) zEc) zA3 (nomark _)) (zKo (zB8 zHc (zBt zBl rfl T.b_len uj (zA2 (zAb (ix_D hu) (zA1 0) zEc) zA4)) zA3 (nomark _))))) (zA9 (zKp zUn (zA1 0) zEc (zTs uk PySem.F.slot_list_pop PySem.F.type_list_pop zP7 (.inr (.inl rfl)) (zAb (ix_D hu) (zA1 0) zEc)))))
   (zA5 (zAi (j:=2) nd rfl (by first|exact Or.inl rfl|exact Or.inr rfl) (zAb (ix_D hu) (zA1 0) zEc))
   (zA5 (zCj (zB8 zHc (zA1 2) zA3 (nomark _)) (zA5 (zKp zUn (zA1 0) zEc (zAa zE0 (zA1 2) (zA1 1)))
   (zA9 (zAg (zAa zBx (zA1 2) (zA1 1))))) zBi)
   (zA5 (zAi (j:=3) nd rfl (by first|exact Or.inl rfl|exact Or.inr rfl) (zAa zBx (zAa zAj (zAa zAf (zAb (ix_D hu) (zA1 0) zEc) zA3) zA3) zA3))
   (zA5 (zKp zUn (zA1 0) zEc (zAa zBx (zAa zAj (zAa zAf (zA1 3) zA3) zA3) zA3))
   (zA5 (zAi (j:=4) nd rfl (by first|exact Or.inl rfl|exact Or.inr rfl) (zAa zBx (zAa zAf (zAb (ix_D hu) (zA1 0) zEc) (zAb (ix_D hu) (zA1 0) zEc)) zA3))
   (zA9 (zAg (zAa zBx (zAa zAj (zAa zAf (zAa zBx (zAa zAf (zA1 3) (zA1 3)) zA3) zA3) (zA1 4)) (zA1 1))))))))))
noncomputable abbrev zCz:Stmt:=top 25
theorem sc__law_turn:zAk n_22 n_17 (zA6 zCz):=⟨rfl,rfl,rfl,by decide +kernel,rfl,by decide +kernel,by decide +kernel⟩
theorem zIz {f:Addr}{fd:FuncData}(F:Fun K "_law_turn" "_law_turn" zCz f fd) (T:Txt K mg):FnOk P w K mg base CX0 1 f fd n_17 (spOf K XE0 DP.zC0):=by
 refine fn_d (k:=0) (b:=DP.zD6) F sc__law_turn rfl rfl fun cdv A outer s H E hr=>?_
 have hu:=zBp hr
 have hu64:=hr.units
 have hu1:=hr.units0
 have nd:=sc__law_turn.nd
 exact(zA5 (zGl (zA1 2) (zDa rfl (zAh (zAd (j:=3) nd rfl (by first|exact Or.inl rfl|exact Or.inr rfl)) (zAh (zAd (j:=4) nd rfl (by first|exact Or.inl rfl|exact Or.inr rfl)) (zAh (zAd (j:=5) nd rfl (by first|exact Or.inl rfl|exact Or.inr rfl)) zC8)))))
   (zA5 (zAi (j:=6) nd rfl (by first|exact Or.inl rfl|exact Or.inr rfl) (zAa zAf (zAa zB1 (zAb (ix_D hu) (zA1 1) zA3) (zAb (ix_D hu) (zA1 0) zA3)) (zAa zB1 (zA1 4) (zAa zAf (zAb (ix_D hu) (zA1 0) zA3) (zA1 5)))))
   (zA9 (zAg (zAa zB1 (zA1 6) (zAa zAf (zAa zB1 (zAb (ix_D hu) (zA1 1) zA3) (zAb (ix_D hu) (zA1 0) zA3)) (zAa zB1 (zA1 3) (zAa zAf (zAb (ix_D hu) (zA1 0) zA3) (zA1 5)))))))))
noncomputable abbrev zBn:Stmt:=top 30
theorem sc__law_fraction:zAk n_23 ["_law_upper","_law_lower"] (zA6 zBn):=⟨rfl,rfl,rfl,by decide +kernel,rfl,by decide +kernel,by decide +kernel⟩
theorem zFv {f:Addr}{fd:FuncData}(F:Fun K "_law_fraction" "_law_fraction" zBn f fd) (T:Txt K mg):FnOk P w K mg base CX0 1 f fd ["_law_upper","_law_lower"] (spOf K XE0 DP.zAs):=by
 refine fn_d (k:=0) (b:=DP.zBs) F sc__law_fraction rfl rfl fun cdv A outer s H E hr=>?_
 have hu:=zBp hr
 have hu64:=hr.units
 have hu1:=hr.units0
 have nd:=sc__law_fraction.nd
 exact(zA5 (zG4 (i:=2) (j:=3) rfl nd rfl rfl (by decide) rfl rfl (zA2 (zBt zGr rfl T.b_abs PyProof.Rows.boot_abs (zA2 (zA1 0) zA4)) (zA2 (zA1 1) zA4)) rfl)
   (zA5 (zDn vn (zB8 zHc (zA1 3) zA3 (nomark _)) (zA9 (zG4 (i:=2) (j:=3) rfl nd rfl rfl (by decide) rfl rfl (zA2 (zA1 3) (zA2 (zAa zBx (zA1 2) (zA1 3)) zA4)) rfl)))
   (zA9 (zAg (zAz (zA2 (zAa zE0 (zA1 0) (zA1 2)) (zA2 (zAa zE0 (zA1 1) (zA1 2)) zA4)))))))
noncomputable abbrev zB4:Stmt:=top 31
theorem sc__law_is_worth:zAk n_12 ["_law_sides","_law_point"] (zA6 zB4):=⟨rfl,rfl,rfl,by decide +kernel,rfl,by decide +kernel,by decide +kernel⟩
theorem zFu {f:Addr}{fd:FuncData}(F:Fun K "_law_is_worth" "_law_is_worth" zB4 f fd) (T:Txt K mg):FnOk P w K mg base CX0 1 f fd ["_law_sides","_law_point"] (spOf K XE0 DP.zB6):=by
 refine fn_d (k:=0) (b:=DP.zBr) F sc__law_is_worth rfl rfl fun cdv A outer s H E hr=>?_
 have hu:=zBp hr
 have hu64:=hr.units
 have hu1:=hr.units0
 have nd:=sc__law_is_worth.nd
 exact(zA5 (zGl (zA1 1) (zDa rfl (zAh (zAd (j:=2) nd rfl (by first|exact Or.inl rfl|exact Or.inr rfl)) (zAh (zAd (j:=3) nd rfl (by first|exact Or.inl rfl|exact Or.inr rfl)) (zAh (zAd (j:=4) nd rfl (by first|exact Or.inl rfl|exact Or.inr rfl)) zC8)))))
   (zA9 (zAg (zBt (zHn rfl) rfl T.b_all PyProof.Rows.boot_all (zA2 (zCs (zC9 rfl (CompScope.mk' (sc:=zA6 zB4) (N:=n_12) (own:=["_law_slope","_law_number"]) (fre:=n_13) (ix:=[4,2,3]) rfl rfl (by decide +kernel)) (zBu (zA1 0)) (fun cl C s0 H0 fp=>(zDa rfl (zAh (zAd (j:=0) (show List.Nodup n_14 by decide +kernel) rfl (Or.inl rfl) (Or.inr rfl)) (zAh (zAd (j:=1) (show List.Nodup n_14 by decide +kernel) rfl (Or.inl rfl) (Or.inr rfl)) zC8)))) (fun cl C s0 H0 fp=>zBj) (fun cl C s0 H0 fp=>(zTt zTf (zAa zAj (zAa zAf (zAb (ix_D hu) (zA1 0) zA3) (zA1 3)) (zAa zAf (zAb (ix_D hu) (zA1 0) zA3) (zA1 4))) (zAa zAf (zA1 1) (zA1 2)) (nomark _))))) zA4)))))
noncomputable abbrev zAv:Stmt:=top 32
theorem sc__law_sides_right:zAk n_15 ["_law_cells_here","_law_sides"] (zA6 zAv):=⟨rfl,rfl,rfl,by decide +kernel,rfl,by decide +kernel,by decide +kernel⟩
theorem zEh {f:Addr}{fd:FuncData}(F:Fun K "_law_sides_right" "_law_sides_right" zAv f fd) (T:Txt K mg):FnOk P w K mg base CX0 1 f fd ["_law_cells_here","_law_sides"] (spOf K XE0 DP.zAy):=by
 refine fn_d (k:=0) (b:=DP.zCo) F sc__law_sides_right rfl rfl fun cdv A outer s H E hr=>?_
 have hu:=zBp hr
 have hu64:=hr.units
 have hu1:=hr.units0
 have nd:=sc__law_sides_right.nd
 exact(zA5 (zCj (dt_w (zQ2 (zJb (zFn (zBt zDr rfl T.b_isinstance yo (zA2 (zA1 1) (zA2 (zQ4 rfl T.b_tuple yp rfl) zA4))))) (zQ1 (zB8 zIy (zBt zBl rfl T.b_len uj (zA2 (zA1 1) zA4)) zA3 (nomark _))))) (zA9 (zAg zFw)) zBi)
   (zA5 (zD2 vn rfl (zBu (zA1 1)) (zDa rfl (zAh (zAd (j:=2) nd rfl (by first|exact Or.inl rfl|exact Or.inr rfl)) (zAh (zAd (j:=3) nd rfl (by first|exact Or.inl rfl|exact Or.inr rfl)) zC8))) (zA5 (zCj (dt_w (zQ2 (zJb (zFn (zBt zDr rfl T.b_isinstance yo (zA2 (zA1 2) (zA2 (zQ4 rfl T.b_tuple yp rfl) zA4))))) (zQ2 (zJb (zFn (zBt zDr rfl T.b_isinstance yo (zA2 (zA1 3) (zA2 (zQ4 rfl T.b_int PyProof.Rows.boot_int rfl) zA4))))) (zQ1 (zFn (zBt zDr rfl T.b_isinstance yo (zA2 (zA1 3) (zA2 (zQ4 rfl T.b_bool PyProof.Rows.boot_bool rfl) zA4)))))))) (zA9 (zAg zFw)) zBi)
   (zA9 (zCj (zB8 zYr (zBt (zDq rfl) rfl T.b_min yq (zA2 (zCs (zC9 rfl (CompScope.mk' (sc:=zA6 zAv) (N:=n_15) (own:=["_law_x","_law_y"]) (fre:=["_law_slope"]) (ix:=[2]) rfl rfl (by decide +kernel)) (zBu (zA1 0)) (fun cl C s0 H0 fp=>(zDa rfl (zAh (zAd (j:=0) (show List.Nodup n_16 by decide +kernel) rfl (Or.inl rfl) (Or.inr rfl)) (zAh (zAd (j:=1) (show List.Nodup n_16 by decide +kernel) rfl (Or.inl rfl) (Or.inr rfl)) zC8)))) (fun cl C s0 H0 fp=>zBj) (fun cl C s0 H0 fp=>(zAa zAj (zAa zAf (zAb (ix_D hu) (zA1 2) zA3) (zA1 0)) (zAa zAf (zAb (ix_D hu) (zA1 2) zA3) (zA1 1)))))) zA4)) (zA1 3) (nomark _)) (zA9 (zAg zFw)) zBi))))
   (zA9 (zAg zFw))))
noncomputable abbrev zDz:Stmt:=top 2
theorem sc_fraction:zAk n_24 ["upper","lower"] (zA6 zDz):=⟨rfl,rfl,rfl,by decide +kernel,rfl,by decide +kernel,by decide +kernel⟩
theorem zKa {f:Addr}{fd:FuncData}(F:Fun K "fraction" "fraction" zDz f fd) (T:Txt K mg) (C_common_divisor:zDb P w K mg base):FnOk P w K mg base CX0 2 f fd ["upper","lower"] (spOf K XE0 DP.zCx):=by
 refine fn_d (k:=1) (b:=DP.zE9) F sc_fraction rfl rfl fun cdv A outer s H E hr=>?_
 have hu:=zBp hr
 have hu64:=hr.units
 have hu1:=hr.units0
 have nd:=sc_fraction.nd
 exact(zA5 (zAi (j:=2) nd rfl (by first|exact Or.inl rfl|exact Or.inr rfl) (zAe C_common_divisor (hr.mono (by decide)) rfl (zA2 (zA1 0) (zA2 (zA1 1) zA4))))
   (zA5 (zCj (zB8 zLf (zA1 1) zA3 (nomark _)) (zA9 (zAi (j:=2) nd rfl (by first|exact Or.inl rfl|exact Or.inr rfl) (zH9 zCr (zA1 2)))) zBi)
   (zA9 (zAg (zAz (zA2 (zAa zE0 (zA1 0) (zA1 2)) (zA2 (zAa zE0 (zA1 1) (zA1 2)) zA4)))))))
noncomputable abbrev zEp:Stmt:=top 12
theorem sc_side_at:zAk n_25 n_18 (zA6 zEp):=⟨rfl,rfl,rfl,by decide +kernel,rfl,by decide +kernel,by decide +kernel⟩
theorem zMt {f:Addr}{fd:FuncData}(F:Fun K "side_at" "side_at" zEp f fd) (T:Txt K mg) (C_sign_of:zJr P w K mg base):FnOk P w K mg base CX0 2 f fd n_18 (spOf K XE0 DP.zEx):=by
 refine fn_d (k:=1) (b:=DP.zGw) F sc_side_at rfl rfl fun cdv A outer s H E hr=>?_
 have hu:=zBp hr
 have hu64:=hr.units
 have hu1:=hr.units0
 have nd:=sc_side_at.nd
 exact(zA5 (zAi (j:=3) nd rfl (by first|exact Or.inl rfl|exact Or.inr rfl) (zAa zAf (zAa zB1 (zAb (ix_D hu) (zAb (ix_D hu) (zA1 2) zA3) zA3) (zAa zAf (zAb (ix_D hu) (zA1 0) zA3) (zAb (ix_D hu) (zAb (ix_D hu) (zA1 2) zA3) zA3))) (zAb (ix_D hu) (zAb (ix_D hu) (zA1 2) zA3) zA3)))
   (zA5 (zAi (j:=4) nd rfl (by first|exact Or.inl rfl|exact Or.inr rfl) (zAa zAf (zAa zB1 (zAb (ix_D hu) (zAb (ix_D hu) (zA1 2) zA3) zA3) (zAa zAf (zAb (ix_D hu) (zA1 0) zA3) (zAb (ix_D hu) (zAb (ix_D hu) (zA1 2) zA3) zA3))) (zAb (ix_D hu) (zAb (ix_D hu) (zA1 2) zA3) zA3)))
   (zA9 (zAg (zAe C_sign_of (hr.mono (by decide)) rfl (zA2 (zAa zB1 (zAa zAf (zAa zB1 (zAb (ix_D hu) (zA1 1) zA3) (zAb (ix_D hu) (zA1 0) zA3)) (zA1 4)) (zAa zAf (zAa zB1 (zAb (ix_D hu) (zA1 1) zA3) (zAb (ix_D hu) (zA1 0) zA3)) (zA1 3))) zA4))))))
noncomputable abbrev zDy:Stmt:=top 18
theorem sc_inward:zAk n_0 ["corners"] (zA6 zDy):=⟨rfl,rfl,rfl,by decide +kernel,rfl,by decide +kernel,by decide +kernel⟩
theorem zP2 {f:Addr}{fd:FuncData}(F:Fun K "inward" "inward" zDy f fd) (T:Txt K mg) (C_neighbours:zFo P w K mg base):FnOk P w K mg base CX0 2 f fd ["corners"] (spOf K XE0 DP.zEy):=by
 refine fn_d (k:=1) (b:=DP.zG5) F sc_inward rfl rfl fun cdv A outer s H E hr=>?_
 have hu:=zBp hr
 have hu64:=hr.units
 have hu1:=hr.units0
 have nd:=sc_inward.nd
 obtain⟨_,hc_ALL_WAYS,rc_ALL_WAYS⟩:=T.c_ALL_WAYS
 exact(zA5 (zCj (zB8 zIy (zBt zBl rfl T.b_len uj (zA2 (zA1 0) zA4)) zA3 (nomark _)) (zA9 (zAg (zCs (zZv zGq rfl T.b_list yt (zA2 (de_k rfl hc_ALL_WAYS rc_ALL_WAYS) zA4))))) zBi)
   (zA5 (zG3 (j:=1) nd rfl (by first|exact Or.inl rfl|exact Or.inr rfl) rfl (CompScope.mk' (sc:=zA6 zDy) (N:=n_0) (own:=["one","other"]) (fre:=[]) (ix:=[]) rfl rfl (by decide +kernel)) (zBu (zAe C_neighbours (hr.mono (by decide)) rfl (zA2 (zA1 0) zA4))) (fun cl C s0 H0 fp=>(zDa rfl (zAh (zAd (j:=0) (show List.Nodup (["one","other"]:List Str) by decide +kernel) rfl (Or.inl rfl) (Or.inr rfl)) (zAh (zAd (j:=1) (show List.Nodup (["one","other"]:List Str) by decide +kernel) rfl (Or.inl rfl) (Or.inr rfl)) zC8)))) (fun cl C s0 H0 fp=>zBj) (fun cl C s0 H0 fp=>(zAz (zA2 (zAa zB1 (zAb (ix_D hu) (zA1 1) zA3) (zAb (ix_D hu) (zA1 0) zA3)) (zA2 (zAa zB1 (zAb (ix_D hu) (zA1 1) zA3) (zAb (ix_D hu) (zA1 0) zA3)) zA4)))))
   (zA5 (zG3 (j:=2) nd rfl (by first|exact Or.inl rfl|exact Or.inr rfl) rfl (CompScope.mk' (sc:=zA6 zDy) (N:=n_0) (own:=["way"]) (fre:=[]) (ix:=[]) rfl rfl (by decide +kernel)) (zBu (zA1 1)) (fun cl C s0 H0 fp=>(zAd (j:=0) (show List.Nodup (["way"]:List Str) by decide +kernel) rfl (Or.inl rfl) (Or.inr rfl))) (fun cl C s0 H0 fp=>zBj) (fun cl C s0 H0 fp=>(zAz (zA2 (zH9 zCr (zAb (ix_D hu) (zA1 0) zA3)) (zA2 (zAb (ix_D hu) (zA1 0) zA3) zA4)))))
   (zA9 (zAg (yAv (zB8 zIy (zBt zBl rfl T.b_len uj (zA2 (zA1 0) zA4)) zA3 (nomark _)) (zAa zAj (zA1 2) (zA1 1)) (zA1 2)))))))
noncomputable abbrev zC2:Stmt:=top 24
theorem sc__law_cells:zAk n_3 ["_law_deal_here","_law_many"] (zA6 zC2):=⟨rfl,rfl,rfl,by decide +kernel,rfl,by decide +kernel,by decide +kernel⟩
theorem zI8 {f:Addr}{fd:FuncData}(F:Fun K "_law_cells" "_law_cells" zC2 f fd) (T:Txt K mg) (C__law_draw:zD9 P w K mg base):FnOk P w K mg base CX0 2 f fd ["_law_deal_here","_law_many"] (spOf K XE0 DP.zC5):=by
 refine fn_d (k:=1) (b:=DP.zC7) F sc__law_cells rfl rfl fun cdv A outer s H E hr=>?_
 have hu:=zBp hr
 have hu64:=hr.units
 have hu1:=hr.units0
 have nd:=sc__law_cells.nd
 exact(zA5 (zAi (j:=2) nd rfl (by first|exact Or.inl rfl|exact Or.inr rfl) (zAb (ix_D hu) (zCs (zGm (zA2 zA3 (zA2 zA3 (zA2 zA3 (zA2 zA3 (zA2 zA3 (zA2 zA3 zA4)))))))) (zAe C__law_draw (hr.mono (by decide)) rfl (zA2 (zA1 0) (zA2 zA3 zA4)))))
   (zA5 (zSl (zAz (zA2 (zAa zAj (zAa zAf zA3 (zA1 2)) zA3) (zA2 (zM5 (zGm zA4)) zA4))) (zDa rfl (zAh (zAd (j:=3) nd rfl (by first|exact Or.inl rfl|exact Or.inr rfl)) (zAh (zAd (j:=4) nd rfl (by first|exact Or.inl rfl|exact Or.inr rfl)) zC8))))
   (zA5 (zD2 vn rfl (zDo rfl T.b_range (zA2 (zA1 1) zA4)) (zAd (j:=5) nd rfl (by first|exact Or.inl rfl|exact Or.inr rfl)) (zA5 (zAi (j:=6) nd rfl (by first|exact Or.inl rfl|exact Or.inr rfl) (zAe C__law_draw (hr.mono (by decide)) rfl (zA2 (zA1 0) (zA2 (zAa zAf (zA1 3) (zA1 3)) zA4))))
   (zA5 (zDn vn (zB8 zYt (zA1 6) (zA1 4) (by with_unfolding_all rfl)) (zA9 (zAi (j:=6) nd rfl (by first|exact Or.inl rfl|exact Or.inr rfl) (zAa zBx (zAa zAj (zA1 6) zA3) (zAa zAf (zA1 3) (zA1 3))))))
   (zA9 (zD3 (zNb uk u4 u5 zCd (.inr (.inl rfl)) (zA1 4) (zA2 (zA1 6) zA4)))))))
   (zA9 (zAg (zCs (zC9 rfl (CompScope.mk' (sc:=zA6 zC2) (N:=n_3) (own:=["_law_number"]) (fre:=["_law_wide","_law_side"]) (ix:=[2,3]) rfl rfl (by decide +kernel)) (zBu (zA1 4)) (fun cl C s0 H0 fp=>(zAd (j:=0) (show List.Nodup n_4 by decide +kernel) rfl (Or.inl rfl) (Or.inr rfl))) (fun cl C s0 H0 fp=>zBj) (fun cl C s0 H0 fp=>(zAz (zA2 (zAa zB1 (zAa zBx (zA1 0) (zA1 2)) (zA1 1)) (zA2 (zAa zB1 (zAa zE0 (zA1 0) (zA1 2)) (zA1 1)) zA4)))))))))))
noncomputable abbrev zB5:Stmt:=top 26
theorem sc__law_is_in:zAk n_5 ["_law_some_here","_law_point"] (zA6 zB5):=⟨rfl,rfl,rfl,by decide +kernel,rfl,by decide +kernel,by decide +kernel⟩
theorem zI7 {f:Addr}{fd:FuncData}(F:Fun K "_law_is_in" "_law_is_in" zB5 f fd) (T:Txt K mg) (C__law_turn:zH1 P w K mg base):FnOk P w K mg base CX0 2 f fd ["_law_some_here","_law_point"] (spOf K XE0 DP.zC4):=by
 refine fn_d (k:=1) (b:=DP.zCp) F sc__law_is_in rfl rfl fun cdv A outer s H E hr=>?_
 have hu:=zBp hr
 have hu64:=hr.units
 have hu1:=hr.units0
 have nd:=sc__law_is_in.nd
 exact(zA5 (zG3 (j:=2) nd rfl (by first|exact Or.inl rfl|exact Or.inr rfl) rfl (CompScope.mk' (sc:=zA6 zB5) (N:=n_5) (own:=["_law_k"]) (fre:=["_law_point","_law_some_here"]) (ix:=[1,0]) rfl rfl (by decide +kernel)) (zDo rfl T.b_range (zA2 zA3 zA4)) (fun cl C s0 H0 fp=>(zAd (j:=0) (show List.Nodup n_6 by decide +kernel) rfl (Or.inl rfl) (Or.inr rfl))) (fun cl C s0 H0 fp=>zBj) (fun cl C s0 H0 fp=>(zAe C__law_turn (hr.mono (by decide)) rfl (zA2 (zAb (ix_D hu) (zA1 2) (zA1 0)) (zA2 (zAb (ix_D hu) (zA1 2) (zAa zBx (zAa zAj (zA1 0) zA3) zA3)) (zA2 (zA1 1) zA4))))))
   (zA5 (zCj (dt_w (zQ3 (zB8 zLf (zBt (zDq rfl) rfl T.b_min yq (zA2 (zA1 2) zA4)) zA3 (nomark _)) (zKo (zB8 zHc (zBt (zGp rfl) rfl T.b_max yn (zA2 (zA1 2) zA4)) zA3 (nomark _))))) (zA9 (zAg zFw)) zBi)
   (zA5 (zCj (zB8 (zVn hu64) (zA1 2) (zCs (zGm (zA2 zA3 (zA2 zA3 (zA2 zA3 zA4))))) (nomark _)) (zA9 (zAg zFw)) zBi)
   (zA5 (zGl (zA1 1) (zDa rfl (zAh (zAd (j:=3) nd rfl (by first|exact Or.inl rfl|exact Or.inr rfl)) (zAh (zAd (j:=4) nd rfl (by first|exact Or.inl rfl|exact Or.inr rfl)) (zAh (zAd (j:=5) nd rfl (by first|exact Or.inl rfl|exact Or.inr rfl)) zC8)))))
   (zA5 (zG4 (i:=6) (j:=7) rfl nd rfl rfl (by decide) rfl rfl (zA2 (zCs (zC9 rfl (CompScope.mk' (sc:=zA6 zB5) (N:=n_5) (own:=["_law_cell"]) (fre:=["_law_lower"]) (ix:=[5]) rfl rfl (by decide +kernel)) (zBu (zA1 0)) (fun cl C s0 H0 fp=>(zAd (j:=0) (show List.Nodup (["_law_cell","_law_lower"]:List Str) by decide +kernel) rfl (Or.inl rfl) (Or.inr rfl))) (fun cl C s0 H0 fp=>zBj) (fun cl C s0 H0 fp=>(zAa zAf (zAb (ix_D hu) (zA1 0) zA3) (zA1 1))))) (zA2 (zCs (zC9 rfl (CompScope.mk' (sc:=zA6 zB5) (N:=n_5) (own:=["_law_cell"]) (fre:=["_law_lower"]) (ix:=[5]) rfl rfl (by decide +kernel)) (zBu (zA1 0)) (fun cl C s0 H0 fp=>(zAd (j:=0) (show List.Nodup (["_law_cell","_law_lower"]:List Str) by decide +kernel) rfl (Or.inl rfl) (Or.inr rfl))) (fun cl C s0 H0 fp=>zBj) (fun cl C s0 H0 fp=>(zAa zAf (zAb (ix_D hu) (zA1 0) zA3) (zA1 1))))) zA4)) rfl)
   (zA9 (zAg (zZy (zM6 zIx zIx (zBt (zDq rfl) rfl T.b_min yq (zA2 (zA1 6) zA4)) (zA1 3) (zBt (zGp rfl) rfl T.b_max yn (zA2 (zA1 6) zA4))) (zTr (zM6 zIx zIx (zBt (zDq rfl) rfl T.b_min yq (zA2 (zA1 7) zA4)) (zA1 4) (zBt (zGp rfl) rfl T.b_max yn (zA2 (zA1 7) zA4))))))))))))
noncomputable abbrev zBm:Stmt:=top 29
theorem sc__law_points:zAk n_10 ["_law_deal_here","_law_cells_here"] (zA6 zBm):=⟨rfl,rfl,rfl,by decide +kernel,rfl,by decide +kernel,by decide +kernel⟩
theorem zH7 {f:Addr}{fd:FuncData}(F:Fun K "_law_points" "_law_points" zBm f fd) (T:Txt K mg) (C__law_draw:zD9 P w K mg base):FnOk P w K mg base CX0 2 f fd ["_law_deal_here","_law_cells_here"] (spOf K XE0 DP.zB3):=by
 refine fn_d (k:=1) (b:=DP.zD7) F sc__law_points rfl rfl fun cdv A outer s H E hr=>?_
 have hu:=zBp hr
 have hu64:=hr.units
 have hu1:=hr.units0
 have nd:=sc__law_points.nd
 exact(zA5 (zGl (zCs (zC9 rfl (CompScope.mk' (sc:=zA6 zBm) (N:=n_10) (own:=["_law_turn_here"]) (fre:=["_law_cells_here","_law_deal_here"]) (ix:=[1,0]) rfl rfl (by decide +kernel)) (zDo rfl T.b_range (zA2 zA3 zA4)) (fun cl C s0 H0 fp=>(zAd (j:=0) (show List.Nodup n_11 by decide +kernel) rfl (Or.inl rfl) (Or.inr rfl))) (fun cl C s0 H0 fp=>zBj) (fun cl C s0 H0 fp=>(zAb (ix_D hu) (zA1 1) (zAe C__law_draw (hr.mono (by decide)) rfl (zA2 (zA1 2) (zA2 (zBt zBl rfl T.b_len uj (zA2 (zA1 1) zA4)) zA4))))))) (zDa rfl (zAh (zAd (j:=2) nd rfl (by first|exact Or.inl rfl|exact Or.inr rfl)) (zAh (zAd (j:=3) nd rfl (by first|exact Or.inl rfl|exact Or.inr rfl)) (zAh (zAd (j:=4) nd rfl (by first|exact Or.inl rfl|exact Or.inr rfl)) zC8)))))
   (zA5 (zAi (j:=5) nd rfl (by first|exact Or.inl rfl|exact Or.inr rfl) (zM5 (zGm (zA2 (zAz (zA2 (zAb (ix_D hu) (zA1 2) zA3) (zA2 (zAb (ix_D hu) (zA1 2) zA3) (zA2 zA3 zA4)))) (zA2 (zAz (zA2 (zAa zAj (zAb (ix_D hu) (zA1 2) zA3) (zAb (ix_D hu) (zA1 3) zA3)) (zA2 (zAa zAj (zAb (ix_D hu) (zA1 2) zA3) (zAb (ix_D hu) (zA1 3) zA3)) (zA2 zA3 zA4)))) zA4)))))
   (zA5 (zD3 (zNb uk u4 u5 zCd (.inr (.inl rfl)) (zA1 5) (zA2 (zAz (zA2 (zAa zAj (zAa zAj (zAb (ix_D hu) (zA1 2) zA3) (zAb (ix_D hu) (zA1 3) zA3)) (zAb (ix_D hu) (zA1 4) zA3)) (zA2 (zAa zAj (zAa zAj (zAb (ix_D hu) (zA1 2) zA3) (zAb (ix_D hu) (zA1 3) zA3)) (zAb (ix_D hu) (zA1 4) zA3)) (zA2 zA3 zA4)))) zA4)))
   (zA5 (zAi (j:=6) nd rfl (by first|exact Or.inl rfl|exact Or.inr rfl) (zAa zAj zA3 (zAe C__law_draw (hr.mono (by decide)) rfl (zA2 (zA1 0) (zA2 zA3 zA4)))))
   (zA5 (zG4 (i:=7) (j:=8) rfl nd rfl rfl (by decide) rfl rfl (zA2 (zAa zB1 (zAe C__law_draw (hr.mono (by decide)) rfl (zA2 (zA1 0) (zA2 zA3 zA4))) zA3) (zA2 (zAa zB1 (zAe C__law_draw (hr.mono (by decide)) rfl (zA2 (zA1 0) (zA2 zA3 zA4))) zA3) zA4)) rfl)
   (zA5 (zD3 (zNb uk u4 u5 zCd (.inr (.inl rfl)) (zA1 5) (zA2 (zAz (zA2 (zAa zAj (zAa zAf (zAb (ix_D hu) (zA1 2) zA3) (zA1 6)) (zA1 7)) (zA2 (zAa zAj (zAa zAf (zAb (ix_D hu) (zA1 2) zA3) (zA1 6)) (zA1 8)) (zA2 (zA1 6) zA4)))) zA4)))
   (zA5 (zD3 (zNb uk u4 u5 zCd (.inr (.inl rfl)) (zA1 5) (zA2 (zAz (zA2 (zAa zAj (zAa zAj (zAb (ix_D hu) (zA1 2) zA3) (zAb (ix_D hu) (zA1 3) zA3)) (zA1 7)) (zA2 (zAa zAj (zAa zAj (zAb (ix_D hu) (zA1 2) zA3) (zAb (ix_D hu) (zA1 3) zA3)) (zA1 8)) (zA2 zA3 zA4)))) zA4)))
   (zA5 (zD3 (zNb uk u4 u5 zCd (.inr (.inl rfl)) (zA1 5) (zA2 (zAz (zA2 (zAa zB1 (zAa zAj (zAa zAf (zAb (ix_D hu) (zA1 2) zA3) (zA1 6)) (zAe C__law_draw (hr.mono (by decide)) rfl (zA2 (zA1 0) (zA2 zA3 zA4)))) zA3) (zA2 (zAa zB1 (zAa zAj (zAa zAf (zAb (ix_D hu) (zA1 3) zA3) (zA1 6)) (zAe C__law_draw (hr.mono (by decide)) rfl (zA2 (zA1 0) (zA2 zA3 zA4)))) zA3) (zA2 (zA1 6) zA4)))) zA4)))
   (zA9 (zAg (zA1 5)))))))))))
noncomputable abbrev zI4:Stmt:=top 3
theorem sc_added:zAk ["one","other"] ["one","other"] (zA6 zI4):=⟨rfl,rfl,rfl,by decide +kernel,rfl,by decide +kernel,by decide +kernel⟩
theorem zRw {f:Addr}{fd:FuncData}(F:Fun K "added" "added" zI4 f fd) (T:Txt K mg) (C_fraction:zFi P w K mg base):FnOk P w K mg base CX0 3 f fd ["one","other"] (spOf K XE0 DP.zIf):=by
 refine fn_d (k:=2) (b:=DP.zKw) F sc_added rfl rfl fun cdv A outer s H E hr=>?_
 have hu:=zBp hr
 have hu64:=hr.units
 have hu1:=hr.units0
 have nd:=sc_added.nd
 exact(zA9 (zAg (zAe C_fraction (hr.mono (by decide)) rfl (zA2 (zAa zAj (zAa zAf (zAb (ix_D hu) (zA1 0) zA3) (zAb (ix_D hu) (zA1 1) zA3)) (zAa zAf (zAb (ix_D hu) (zA1 1) zA3) (zAb (ix_D hu) (zA1 0) zA3))) (zA2 (zAa zAf (zAb (ix_D hu) (zA1 0) zA3) (zAb (ix_D hu) (zA1 1) zA3)) zA4)))))
noncomputable abbrev zI3:Stmt:=top 4
theorem sc_times:zAk ["one","other"] ["one","other"] (zA6 zI3):=⟨rfl,rfl,rfl,by decide +kernel,rfl,by decide +kernel,by decide +kernel⟩
theorem zRv {f:Addr}{fd:FuncData}(F:Fun K "times" "times" zI3 f fd) (T:Txt K mg) (C_fraction:zFi P w K mg base):FnOk P w K mg base CX0 3 f fd ["one","other"] (spOf K XE0 DP.zGk):=by
 refine fn_d (k:=2) (b:=DP.zKv) F sc_times rfl rfl fun cdv A outer s H E hr=>?_
 have hu:=zBp hr
 have hu64:=hr.units
 have hu1:=hr.units0
 have nd:=sc_times.nd
 exact(zA9 (zAg (zAe C_fraction (hr.mono (by decide)) rfl (zA2 (zAa zAf (zAb (ix_D hu) (zA1 0) zA3) (zAb (ix_D hu) (zA1 1) zA3)) (zA2 (zAa zAf (zAb (ix_D hu) (zA1 0) zA3) (zAb (ix_D hu) (zA1 1) zA3)) zA4)))))
noncomputable abbrev zEo:Stmt:=top 11
theorem sc_side_of:zAk n_19 n_19 (zA6 zEo):=⟨rfl,rfl,rfl,by decide +kernel,rfl,by decide +kernel,by decide +kernel⟩
theorem zMs {f:Addr}{fd:FuncData}(F:Fun K "side_of" "side_of" zEo f fd) (T:Txt K mg) (C_side_at:zJt P w K mg base) (C_point_of:zHq P w K mg base):FnOk P w K mg base CX0 3 f fd n_19 (spOf K XE0 DP.zCw):=by
 refine fn_d (k:=2) (b:=DP.zGv) F sc_side_of rfl rfl fun cdv A outer s H E hr=>?_
 have hu:=zBp hr
 have hu64:=hr.units
 have hu1:=hr.units0
 have nd:=sc_side_of.nd
 exact(zA9 (zAg (zAe C_side_at (hr.mono (by decide)) rfl (zA2 (zA1 0) (zA2 (zA1 1) (zA2 (zAe C_point_of (hr.mono (by decide)) rfl (zA2 (zA1 2) zA4)) zA4))))))
noncomputable abbrev zC1:Stmt:=top 27
theorem sc__law_in_hull:zAk n_26 ["_law_cells_here","_law_point"] (zA6 zC1):=⟨rfl,rfl,rfl,by decide +kernel,rfl,by decide +kernel,by decide +kernel⟩
theorem zGb {f:Addr}{fd:FuncData}(F:Fun K "_law_in_hull" "_law_in_hull" zC1 f fd) (T:Txt K mg) (C__law_is_in:zFq P w K mg base):FnOk P w K mg base CX0 3 f fd ["_law_cells_here","_law_point"] (spOf K XE0 DP.zBb):=by
 refine fn_d (k:=2) (b:=DP.zEe) F sc__law_in_hull rfl rfl fun cdv A outer s H E hr=>?_
 have hu:=zBp hr
 have hu64:=hr.units
 have hu1:=hr.units0
 have nd:=sc__law_in_hull.nd
 exact(zA5 (zAi (j:=2) nd rfl (by first|exact Or.inl rfl|exact Or.inr rfl) (zAa zAj (zCs (zZv zGq rfl T.b_list yt (zA2 (zA1 0) zA4))) (zAa zVp (zCs (zGm (zA2 (zAb (ix_D hu) (zA1 0) zA3) zA4))) (zBt (zHm rfl) rfl T.b_max yn (zA2 zA3 (zA2 (zAa zB1 zA3 (zBt zBl rfl T.b_len uj (zA2 (zA1 0) zA4))) zA4))))))
   (zA5 (zD2 vn rfl (zJd rfl T.b_range (zA2 zA3 (zA2 (zBt zBl rfl T.b_len uj (zA2 (zA1 2) zA4)) zA4))) (zAd (j:=3) nd rfl (by first|exact Or.inl rfl|exact Or.inr rfl)) (zA9 (zD2 vn rfl (zJd rfl T.b_range (zA2 zA3 (zA2 (zA1 3) zA4))) (zAd (j:=4) nd rfl (by first|exact Or.inl rfl|exact Or.inr rfl)) (zA9 (zD2 vn rfl (zDo rfl T.b_range (zA2 (zA1 4) zA4)) (zAd (j:=5) nd rfl (by first|exact Or.inl rfl|exact Or.inr rfl)) (zA9 (zCj (zFn (zAe C__law_is_in (hr.mono (by decide)) rfl (zA2 (zAz (zA2 (zAb (ix_D hu) (zA1 2) (zA1 3)) (zA2 (zAb (ix_D hu) (zA1 2) (zA1 4)) (zA2 (zAb (ix_D hu) (zA1 2) (zA1 5)) zA4)))) (zA2 (zA1 1) zA4)))) (zA9 (zAg zFw)) zBi)))))))
   (zA9 (zAg zFw))))
noncomputable abbrev zBv:Stmt:=top 28
theorem sc__law_some:zAk n_7 ["_law_deal_here"] (zA6 zBv):=⟨rfl,rfl,rfl,by decide +kernel,rfl,by decide +kernel,by decide +kernel⟩
theorem zJ0 {f:Addr}{fd:FuncData}(F:Fun K "_law_some" "_law_some" zBv f fd) (T:Txt K mg) (C__law_cells:zFr P w K mg base) (C__law_draw:zD9 P w K mg base):FnOk P w K mg base CX0 3 f fd ["_law_deal_here"] (spOf K XE0 DP.zCi):=by
 refine fn_d (k:=2) (b:=DP.zEj) F sc__law_some rfl rfl fun cdv A outer s H E hr=>?_
 have hu:=zBp hr
 have hu64:=hr.units
 have hu1:=hr.units0
 have nd:=sc__law_some.nd
 exact(zA5 (zAi (j:=1) nd rfl (by first|exact Or.inl rfl|exact Or.inr rfl) (zAe C__law_cells (hr.mono (by decide)) rfl (zA2 (zA1 0) (zA2 (zAa zAj zA3 (zAe C__law_draw (hr.mono (by decide)) rfl (zA2 (zA1 0) (zA2 zA3 zA4)))) zA4))))
   (zA5 (zCj (zB8 zIy (zAe C__law_draw (hr.mono (by decide)) rfl (zA2 (zA1 0) (zA2 zA3 zA4))) zA3 (nomark _)) (zA5 (zGl (zAb (ix_D hu) (zCs (zGm (zA2 (zAz (zA2 zA3 (zA2 zA3 zA4))) (zA2 (zAz (zA2 zA3 (zA2 zA3 zA4))) (zA2 (zAz (zA2 zA3 (zA2 zA3 zA4))) (zA2 (zAz (zA2 zA3 (zA2 (zH9 zCr zA3) zA4))) (zA2 (zAz (zA2 (zH9 zCr zA3) (zA2 zA3 zA4))) zA4))))))) (zAe C__law_draw (hr.mono (by decide)) rfl (zA2 (zA1 0) (zA2 zA3 zA4)))) (zDa rfl (zAh (zAd (j:=2) nd rfl (by first|exact Or.inl rfl|exact Or.inr rfl)) (zAh (zAd (j:=3) nd rfl (by first|exact Or.inl rfl|exact Or.inr rfl)) zC8))))
   (zA9 (zSm (j:=1) nd rfl (by first|exact Or.inl rfl|exact Or.inr rfl) (zCs (zC9 rfl (CompScope.mk' (sc:=zA6 zBv) (N:=n_7) (own:=["_law_k"]) (fre:=n_8) (ix:=[2,3,1]) rfl rfl (by decide +kernel)) (zBu (zCs (zC9 rfl (CompScope.mk' (sc:=zA6 zBv) (N:=n_7) (own:=["_law_cell"]) (fre:=["_law_deal_here"]) (ix:=[0]) rfl rfl (by decide +kernel)) (zBu (zA1 1)) (fun cl C s0 H0 fp=>(zAd (j:=0) (show List.Nodup (["_law_cell","_law_deal_here"]:List Str) by decide +kernel) rfl (Or.inl rfl) (Or.inr rfl))) (fun cl C s0 H0 fp=>zBj) (fun cl C s0 H0 fp=>(zAe C__law_draw (hr.mono (by decide)) rfl (zA2 (zA1 1) (zA2 zA3 zA4))))))) (fun cl C s0 H0 fp=>(zAd (j:=0) (show List.Nodup n_9 by decide +kernel) rfl (Or.inl rfl) (Or.inr rfl))) (fun cl C s0 H0 fp=>zBj) (fun cl C s0 H0 fp=>(zAz (zA2 (zAa zAj (zAb (ix_D hu) (zAb (ix_D hu) (zA1 3) zA3) zA3) (zAa zAf (zA1 1) (zA1 0))) (zA2 (zAa zAj (zAb (ix_D hu) (zAb (ix_D hu) (zA1 3) zA3) zA3) (zAa zAf (zA1 2) (zA1 0))) zA4))))))))) zBi)
   (zA9 (zAg (zWx zDp rfl T.b_tuple yp (zA2 (zA1 1) zA4))))))
noncomputable abbrev zDw:Stmt:=top 9
theorem sc_worth_at:zAk n_27 ["slope","point"] (zA6 zDw):=⟨rfl,rfl,rfl,by decide +kernel,rfl,by decide +kernel,by decide +kernel⟩
theorem zK7 {f:Addr}{fd:FuncData}(F:Fun K "worth_at" "worth_at" zDw f fd) (T:Txt K mg) (C_times:zQq P w K mg base) (C_added:zQr P w K mg base):FnOk P w K mg base CX0 4 f fd ["slope","point"] (spOf K XE0 DP.zCv):=by
 refine fn_d (k:=3) (b:=DP.zE7) F sc_worth_at rfl rfl fun cdv A outer s H E hr=>?_
 have hu:=zBp hr
 have hu64:=hr.units
 have hu1:=hr.units0
 have nd:=sc_worth_at.nd
 exact(zA5 (zAi (j:=2) nd rfl (by first|exact Or.inl rfl|exact Or.inr rfl) (zAe C_times (hr.mono (by decide)) rfl (zA2 (zAz (zA2 (zAb (ix_D hu) (zA1 0) zA3) (zA2 zA3 zA4))) (zA2 (zAb (ix_D hu) (zA1 1) zA3) zA4))))
   (zA5 (zAi (j:=3) nd rfl (by first|exact Or.inl rfl|exact Or.inr rfl) (zAe C_times (hr.mono (by decide)) rfl (zA2 (zAz (zA2 (zAb (ix_D hu) (zA1 0) zA3) (zA2 zA3 zA4))) (zA2 (zAb (ix_D hu) (zA1 1) zA3) zA4))))
   (zA9 (zAg (zAe C_added (hr.mono (by decide)) rfl (zA2 (zA1 2) (zA2 (zA1 3) zA4)))))))
noncomputable abbrev zCl:Stmt:=top 16
theorem sc_left_turns:zAk n_28 ["cells"] (zA6 zCl):=⟨rfl,rfl,rfl,by decide +kernel,rfl,by decide +kernel,by decide +kernel⟩
theorem zI6 {f:Addr}{fd:FuncData}(F:Fun K "left_turns" "left_turns" zCl f fd) (T:Txt K mg) (C_side_of:zJs P w K mg base):FnOk P w K mg base CX0 4 f fd ["cells"] (spOf K XE0 DP.zBk):=by
 refine fn_d (k:=3) (b:=DP.zC6) F sc_left_turns rfl rfl fun cdv A outer s H E hr=>?_
 have hu:=zBp hr
 have hu64:=hr.units
 have hu1:=hr.units0
 have nd:=sc_left_turns.nd
 exact(zA5 (zAi (j:=1) nd rfl (by first|exact Or.inl rfl|exact Or.inr rfl) (zM5 (zGm zA4)))
   (zA5 (zD2 vn rfl (zBu (zA1 0)) (zAd (j:=2) nd rfl (by first|exact Or.inl rfl|exact Or.inr rfl)) (zA5 (zDn vn (dt_w (zQ3 (zB8 zHc (zBt zBl rfl T.b_len uj (zA2 (zA1 1) zA4)) zA3 (nomark _)) (zKo (zB8 zIx (zAe C_side_of (hr.mono (by decide)) rfl (zA2 (zAb (ix_D hu) (zA1 1) (zH9 zCr zA3)) (zA2 (zAb (ix_D hu) (zA1 1) (zH9 zCr zA3)) (zA2 (zA1 2) zA4)))) zA3 (nomark _))))) (zA9 (zD3 (zTs uk PySem.F.slot_list_pop PySem.F.type_list_pop zP7 (.inr (.inl rfl)) (zA1 1)))))
   (zA9 (zD3 (zNb uk u4 u5 zCd (.inr (.inl rfl)) (zA1 1) (zA2 (zA1 2) zA4))))))
   (zA9 (zAg (zA1 1)))))
noncomputable abbrev zEr:Stmt:=top 15
theorem sc_hull_of:zAk n_29 ["cells"] (zA6 zEr):=⟨rfl,rfl,rfl,by decide +kernel,rfl,by decide +kernel,by decide +kernel⟩
theorem zMw {f:Addr}{fd:FuncData}(F:Fun K "hull_of" "hull_of" zEr f fd) (T:Txt K mg) (C_left_turns:zFp P w K mg base):FnOk P w K mg base CX0 5 f fd ["cells"] (spOf K XE0 DP.zBq):=by
 refine fn_d (k:=4) (b:=DP.zF1) F sc_hull_of rfl rfl fun cdv A outer s H E hr=>?_
 have hu:=zBp hr
 have hu64:=hr.units
 have hu1:=hr.units0
 have nd:=sc_hull_of.nd
 exact(zA5 (zAi (j:=1) nd rfl (by first|exact Or.inl rfl|exact Or.inr rfl) (zCs (zZu rfl hu64 (zA1 0) rfl T.b_sorted rfl T.b_set)))
   (zA5 (zAi (j:=2) nd rfl (by first|exact Or.inl rfl|exact Or.inr rfl) (zAe C_left_turns (hr.mono (by decide)) rfl (zA2 (zA1 1) zA4)))
   (zA5 (zAi (j:=3) nd rfl (by first|exact Or.inl rfl|exact Or.inr rfl) (zAe C_left_turns (hr.mono (by decide)) rfl (zA2 (zCs (zHj rfl (zA1 1) rfl T.b_list rfl T.b_reversed)) zA4)))
   (zA9 (zAg (zWx zDp rfl T.b_tuple yp (zA2 (zZw (zAa zAj (zNa sl_D (zA1 2) zN8 (zHi (zH9 zCr zA3))) (zNa sl_D (zA1 3) zN8 (zHi (zH9 zCr zA3)))) (zTr (zA1 1))) zA4)))))))
noncomputable abbrev zCc:Stmt:=top 17
theorem sc_sides_of:zAk ["cells","corners"] ["cells"] (zA6 zCc):=⟨rfl,rfl,rfl,by decide +kernel,rfl,by decide +kernel,by decide +kernel⟩
theorem zK8 {f:Addr}{fd:FuncData}(F:Fun K "sides_of" "sides_of" zCc f fd) (T:Txt K mg) (C_hull_of:zJw P w K mg base) (C_inward:zMh P w K mg base) (C_worth:zQp P w K mg base):FnOk P w K mg base CX0 6 f fd ["cells"] (spOf K XE0 DP.zBz):=by
 refine fn_d (k:=5) (b:=DP.zE8) F sc_sides_of rfl rfl fun cdv A outer s H E hr=>?_
 have hu:=zBp hr
 have hu64:=hr.units
 have hu1:=hr.units0
 have nd:=sc_sides_of.nd
 exact(zA5 (zAi (j:=1) nd rfl (by first|exact Or.inl rfl|exact Or.inr rfl) (zAe C_hull_of (hr.mono (by decide)) rfl (zA2 (zA1 0) zA4)))
   (zA9 (zAg (zWx zDp rfl T.b_tuple yp (zA2 (zCs (zC9 rfl (CompScope.mk' (sc:=zA6 zCc) (N:=["cells","corners"]) (own:=["slope"]) (fre:=["corners"]) (ix:=[1]) rfl rfl (by decide +kernel)) (zBu (zAe C_inward (hr.mono (by decide)) rfl (zA2 (zA1 1) zA4))) (fun cl C s0 H0 fp=>(zAd (j:=0) (show List.Nodup (["slope","corners"]:List Str) by decide +kernel) rfl (Or.inr rfl) (Or.inl rfl))) (fun cl C s0 H0 fp=>zBj) (fun cl C s0 H0 fp=>(zAz (zA2 (zA1 0) (zA2 (zBt (zDq rfl) rfl T.b_min yq (zA2 (zCs (zC9 rfl (CompScope.mk' (sc:=(zLc _ (zA6 zCc))) (N:=["slope","corners"]) (own:=["corner"]) (fre:=["slope"]) (ix:=[0]) rfl rfl (by decide +kernel)) (zBu (zA1 1)) (fun cl C s0 H0 fp=>(zAd (j:=0) (show List.Nodup (["corner","slope"]:List Str) by decide +kernel) rfl (Or.inl rfl) (Or.inr rfl))) (fun cl C s0 H0 fp=>zBj) (fun cl C s0 H0 fp=>(zAe C_worth (hr.mono (by decide)) rfl (zA2 (zA1 1) (zA2 (zA1 0) zA4)))))) zA4)) zA4)))))) zA4)))))
noncomputable abbrev zDf:Stmt:=top 20
theorem sc_in_hull:zAk ["cells","point"] ["cells","point"] (zA6 zDf):=⟨rfl,rfl,rfl,by decide +kernel,rfl,by decide +kernel,by decide +kernel⟩
theorem zMv {f:Addr}{fd:FuncData}(F:Fun K "in_hull" "in_hull" zDf f fd) (T:Txt K mg) (C_is_less:zJu P w K mg base) (C_sides_of:zFh P w K mg base) (C_worth_at:zHp P w K mg base):FnOk P w K mg base CX0 7 f fd ["cells","point"] (spOf K XE0 DP.zCh):=by
 refine fn_d (k:=6) (b:=DP.zF0) F sc_in_hull rfl rfl fun cdv A outer s H E hr=>?_
 have hu:=zBp hr
 have hu64:=hr.units
 have hu1:=hr.units0
 have nd:=sc_in_hull.nd
 exact(zA9 (zAg (zBt (zHn rfl) rfl T.b_all PyProof.Rows.boot_all (zA2 (zCs (zC9 rfl (CompScope.mk' (sc:=zA6 zDf) (N:=["cells","point"]) (own:=["slope","number"]) (fre:=["point"]) (ix:=[1]) rfl rfl (by decide +kernel)) (zBu (zAe C_sides_of (hr.mono (by decide)) rfl (zA2 (zA1 0) zA4))) (fun cl C s0 H0 fp=>(zDa rfl (zAh (zAd (j:=0) (show List.Nodup n_1 by decide +kernel) rfl (Or.inl rfl) (Or.inr rfl)) (zAh (zAd (j:=1) (show List.Nodup n_1 by decide +kernel) rfl (Or.inl rfl) (Or.inr rfl)) zC8)))) (fun cl C s0 H0 fp=>zBj) (fun cl C s0 H0 fp=>(zZx (zAe C_is_less (hr.mono (by decide)) rfl (zA2 (zAe C_worth_at (hr.mono (by decide)) rfl (zA2 (zA1 0) (zA2 (zA1 2) zA4))) (zA2 (zAz (zA2 (zA1 1) (zA2 zA3 zA4))) zA4))))))) zA4))))
noncomputable abbrev zK4:Stmt:=top 33
theorem sc_law:zAk n_30 ["_law_script"] (zA6 zK4):=⟨rfl,rfl,rfl,by decide +kernel,rfl,by decide +kernel,by decide +kernel⟩
theorem zYv {f:Addr}{fd:FuncData}(F:Fun K "law" "law" zK4 f fd) (T:Txt K mg) (C__law_deal:zH3 P w K mg base) (C__law_some:zH2 P w K mg base) (C_sides_of:zFh P w K mg base) (C__law_points:zF3 P w K mg base) (C__law_sides_right:zCq P w K mg base) (C__law_in_hull:zEf P w K mg base) (C_in_hull:zJv P w K mg base) (C__law_fraction:zDt P w K mg base) (C__law_is_worth:zDs P w K mg base):FnOk P w K mg base CX0 8 f fd ["_law_script"] (spOf K XE0 DP.zN4):=by
 refine fn_d (k:=7) (b:=DP.zX1) F sc_law rfl rfl fun cdv A outer s H E hr=>?_
 have hu:=zBp hr
 have hu64:=hr.units
 have hu1:=hr.units0
 have nd:=sc_law.nd
 exact(zA5 (zAi (j:=1) nd rfl (by first|exact Or.inl rfl|exact Or.inr rfl) (zAe C__law_deal (hr.mono (by decide)) rfl (zA2 (zA1 0) zA4)))
   (zA5 (zD2 vn rfl (zDo rfl T.b_range (zA2 zA3 zA4)) (zAd (j:=2) nd rfl (by first|exact Or.inl rfl|exact Or.inr rfl)) (zA5 (zAi (j:=3) nd rfl (by first|exact Or.inl rfl|exact Or.inr rfl) (zAe C__law_some (hr.mono (by decide)) rfl (zA2 (zA1 1) zA4)))
   (zA5 (zAi (j:=4) nd rfl (by first|exact Or.inl rfl|exact Or.inr rfl) (zAe C_sides_of (hr.mono (by decide)) rfl (zA2 (zA1 3) zA4)))
   (zA5 (zCj (zJb (zFn (zAe C__law_sides_right (hr.mono (by decide)) rfl (zA2 (zA1 3) (zA2 (zA1 4) zA4))))) (zA9 (zAg zFw)) zBi)
   (zA5 (zAi (j:=5) nd rfl (by first|exact Or.inl rfl|exact Or.inr rfl) (zAa zAj (zWv (zA1 3) (zH9 zCr zA3)) (zNa sl_D (zA1 3) zN8 (zHi zA3))))
   (zA9 (zD2 vn rfl (zBu (zAe C__law_points (hr.mono (by decide)) rfl (zA2 (zA1 1) (zA2 (zA1 3) zA4)))) (zDa rfl (zAh (zAd (j:=6) nd rfl (by first|exact Or.inl rfl|exact Or.inr rfl)) (zAh (zAd (j:=7) nd rfl (by first|exact Or.inl rfl|exact Or.inr rfl)) (zAh (zAd (j:=8) nd rfl (by first|exact Or.inl rfl|exact Or.inr rfl)) zC8)))) (zA5 (zAi (j:=9) nd rfl (by first|exact Or.inl rfl|exact Or.inr rfl) (zAe C__law_in_hull (hr.mono (by decide)) rfl (zA2 (zA1 3) (zA2 (zAz (zA2 (zA1 6) (zA2 (zA1 7) (zA2 (zA1 8) zA4)))) zA4))))
   (zA5 (zAi (j:=10) nd rfl (by first|exact Or.inl rfl|exact Or.inr rfl) (zAz (zA2 (zAe C__law_fraction (hr.mono (by decide)) rfl (zA2 (zA1 6) (zA2 (zA1 8) zA4))) (zA2 (zAe C__law_fraction (hr.mono (by decide)) rfl (zA2 (zA1 7) (zA2 (zA1 8) zA4))) zA4))))
   (zA5 (zAi (j:=11) nd rfl (by first|exact Or.inl rfl|exact Or.inr rfl) (zAe C_in_hull (hr.mono (by decide)) rfl (zA2 (zA1 3) (zA2 (zA1 10) zA4))))
   (zA5 (zCj (dt_w (zQ2 (zJb (zFn (zBt zDr rfl T.b_isinstance yo (zA2 (zA1 11) (zA2 (zQ4 rfl T.b_bool PyProof.Rows.boot_bool rfl) zA4))))) (zQ2 (zB8 zOy (zA1 11) (zA1 9) (nomark _)) (zQ1 (zB8 zOy (zAe C_in_hull (hr.mono (by decide)) rfl (zA2 (zA1 5) (zA2 (zA1 10) zA4))) (zA1 9) (nomark _)))))) (zA9 (zAg zFw)) zBi)
   (zA9 (zCj (zB8 zOy (zAe C__law_is_worth (hr.mono (by decide)) rfl (zA2 (zA1 4) (zA2 (zAz (zA2 (zA1 6) (zA2 (zA1 7) (zA2 (zA1 8) zA4)))) zA4))) (zA1 9) (nomark _)) (zA9 (zAg zFw)) zBi)))))))))))))
   (zA9 (zAg zFw))))
end
noncomputable abbrev FO (x:Str) (st:Stmt) (oc:Value) (od:Option Addr) (kV dc pm:Value) (an:Option Addr) (cd ct:Value) (sl:Array (Option Value)):Option Obj:=some ⟨oc,od,.func (PySem.W.fnOf x x (zFd st) (zD4 st) (zA6 st) .none kV dc pm an cd ct),sl⟩
theorem all_mk {l:PySem.W.OpenLaw}{w:World}{K:PySem.W.Frag}{h:Heap}{mg:Str->Option Value}{fa f0 f1 f2 f3 f4 f5 f6 f7 f8 f9 f10 f11 f12 f13 f14 f15 f16 f17 f18 f19 f20 f21 f22 f23 f24 f25 f26 f27 f28:Addr}(X:K.In h) (G:h.Ns mainGlobals mg) (hfa:mg "law"=some (.ref fa))
  {od0 an0 od1 an1 od2 an2 od3 an3 od4 an4 od5 an5 od6 an6 od7 an7 od8 an8 od9 an9 od10 an10 od11 an11 od12 an12 od13 an13 od14 an14 od15 an15 od16 an16 od17 an17 od18 an18 od19 an19 od20 an20 od21 an21 od22 an22 od23 an23 od24 an24 od25 an25 od26 an26 od27 an27 od28 an28:Option Addr}{sl0 sl1 sl2 sl3 sl4 sl5 sl6 sl7 sl8 sl9 sl10 sl11 sl12 sl13 sl14 sl15 sl16 sl17 sl18 sl19 sl20 sl21 sl22 sl23 sl24 sl25 sl26 sl27 sl28:Array (Option Value)}{oc0 kV0 dc0 pm0 cd0 ct0 oc1 kV1 dc1 pm1 cd1 ct1 oc2 kV2 dc2 pm2 cd2 ct2 oc3 kV3 dc3 pm3 cd3 ct3 oc4 kV4 dc4 pm4 cd4 ct4 oc5 kV5 dc5 pm5 cd5 ct5 oc6 kV6 dc6 pm6 cd6 ct6 oc7 kV7 dc7 pm7 cd7 ct7 oc8 kV8 dc8 pm8 cd8 ct8 oc9 kV9 dc9 pm9 cd9 ct9 oc10 kV10 dc10 pm10 cd10 ct10 oc11 kV11 dc11 pm11 cd11 ct11 oc12 kV12 dc12 pm12 cd12 ct12 oc13 kV13 dc13 pm13 cd13 ct13 oc14 kV14 dc14 pm14 cd14 ct14 oc15 kV15 dc15 pm15 cd15 ct15 oc16 kV16 dc16 pm16 cd16 ct16 oc17 kV17 dc17 pm17 cd17 ct17 oc18 kV18 dc18 pm18 cd18 ct18 oc19 kV19 dc19 pm19 cd19 ct19 oc20 kV20 dc20 pm20 cd20 ct20 oc21 kV21 dc21 pm21 cd21 ct21 oc22 kV22 dc22 pm22 cd22 ct22 oc23 kV23 dc23 pm23 cd23 ct23 oc24 kV24 dc24 pm24 cd24 ct24 oc25 kV25 dc25 pm25 cd25 ct25 oc26 kV26 dc26 pm26 cd26 ct26 oc27 kV27 dc27 pm27 cd27 ct27 oc28 kV28 dc28 pm28 cd28 ct28:Value}
  (a0:PySem.W.nsIn K mainGlobals "common_divisor"=some (some (.ref f0))) (l0:K.lookup f0=FO "common_divisor" zBd oc0 od0 kV0 dc0 pm0 an0 cd0 ct0 sl0) (c0:PySem.W.codeIn K cd0 "common_divisor"=true) (k0:PySem.W.keepIn K (.ref f0)=true)
  (a1:PySem.W.nsIn K mainGlobals "is_less"=some (some (.ref f1))) (l1:K.lookup f1=FO "is_less" zEq oc1 od1 kV1 dc1 pm1 an1 cd1 ct1 sl1) (c1:PySem.W.codeIn K cd1 "is_less"=true) (k1:PySem.W.keepIn K (.ref f1)=true)
  (a2:PySem.W.nsIn K mainGlobals "point_of"=some (some (.ref f2))) (l2:K.lookup f2=FO "point_of" zDx oc2 od2 kV2 dc2 pm2 an2 cd2 ct2 sl2) (c2:PySem.W.codeIn K cd2 "point_of"=true) (k2:PySem.W.keepIn K (.ref f2)=true)
  (a3:PySem.W.nsIn K mainGlobals "worth"=some (some (.ref f3))) (l3:K.lookup f3=FO "worth" zI2 oc3 od3 kV3 dc3 pm3 an3 cd3 ct3 sl3) (c3:PySem.W.codeIn K cd3 "worth"=true) (k3:PySem.W.keepIn K (.ref f3)=true)
  (a4:PySem.W.nsIn K mainGlobals "sign_of"=some (some (.ref f4))) (l4:K.lookup f4=FO "sign_of" zEn oc4 od4 kV4 dc4 pm4 an4 cd4 ct4 sl4) (c4:PySem.W.codeIn K cd4 "sign_of"=true) (k4:PySem.W.keepIn K (.ref f4)=true)
  (a5:PySem.W.nsIn K mainGlobals "neighbours"=some (some (.ref f5))) (l5:K.lookup f5=FO "neighbours" zCk oc5 od5 kV5 dc5 pm5 an5 cd5 ct5 sl5) (c5:PySem.W.codeIn K cd5 "neighbours"=true) (k5:PySem.W.keepIn K (.ref f5)=true)
  (a6:PySem.W.nsIn K mainGlobals "_law_deal"=some (some (.ref f6))) (l6:K.lookup f6=FO "_law_deal" zBw oc6 od6 kV6 dc6 pm6 an6 cd6 ct6 sl6) (c6:PySem.W.codeIn K cd6 "_law_deal"=true) (k6:PySem.W.keepIn K (.ref f6)=true)
  (a7:PySem.W.nsIn K mainGlobals "_law_draw"=some (some (.ref f7))) (l7:K.lookup f7=FO "_law_draw" zD0 oc7 od7 kV7 dc7 pm7 an7 cd7 ct7 sl7) (c7:PySem.W.codeIn K cd7 "_law_draw"=true) (k7:PySem.W.keepIn K (.ref f7)=true)
  (a8:PySem.W.nsIn K mainGlobals "_law_turn"=some (some (.ref f8))) (l8:K.lookup f8=FO "_law_turn" zCz oc8 od8 kV8 dc8 pm8 an8 cd8 ct8 sl8) (c8:PySem.W.codeIn K cd8 "_law_turn"=true) (k8:PySem.W.keepIn K (.ref f8)=true)
  (a9:PySem.W.nsIn K mainGlobals "_law_fraction"=some (some (.ref f9))) (l9:K.lookup f9=FO "_law_fraction" zBn oc9 od9 kV9 dc9 pm9 an9 cd9 ct9 sl9) (c9:PySem.W.codeIn K cd9 "_law_fraction"=true) (k9:PySem.W.keepIn K (.ref f9)=true)
  (a10:PySem.W.nsIn K mainGlobals "_law_is_worth"=some (some (.ref f10))) (l10:K.lookup f10=FO "_law_is_worth" zB4 oc10 od10 kV10 dc10 pm10 an10 cd10 ct10 sl10) (c10:PySem.W.codeIn K cd10 "_law_is_worth"=true) (k10:PySem.W.keepIn K (.ref f10)=true)
  (a11:PySem.W.nsIn K mainGlobals "_law_sides_right"=some (some (.ref f11))) (l11:K.lookup f11=FO "_law_sides_right" zAv oc11 od11 kV11 dc11 pm11 an11 cd11 ct11 sl11) (c11:PySem.W.codeIn K cd11 "_law_sides_right"=true) (k11:PySem.W.keepIn K (.ref f11)=true)
  (a12:PySem.W.nsIn K mainGlobals "fraction"=some (some (.ref f12))) (l12:K.lookup f12=FO "fraction" zDz oc12 od12 kV12 dc12 pm12 an12 cd12 ct12 sl12) (c12:PySem.W.codeIn K cd12 "fraction"=true) (k12:PySem.W.keepIn K (.ref f12)=true)
  (a13:PySem.W.nsIn K mainGlobals "side_at"=some (some (.ref f13))) (l13:K.lookup f13=FO "side_at" zEp oc13 od13 kV13 dc13 pm13 an13 cd13 ct13 sl13) (c13:PySem.W.codeIn K cd13 "side_at"=true) (k13:PySem.W.keepIn K (.ref f13)=true)
  (a14:PySem.W.nsIn K mainGlobals "inward"=some (some (.ref f14))) (l14:K.lookup f14=FO "inward" zDy oc14 od14 kV14 dc14 pm14 an14 cd14 ct14 sl14) (c14:PySem.W.codeIn K cd14 "inward"=true) (k14:PySem.W.keepIn K (.ref f14)=true)
  (a15:PySem.W.nsIn K mainGlobals "_law_cells"=some (some (.ref f15))) (l15:K.lookup f15=FO "_law_cells" zC2 oc15 od15 kV15 dc15 pm15 an15 cd15 ct15 sl15) (c15:PySem.W.codeIn K cd15 "_law_cells"=true) (k15:PySem.W.keepIn K (.ref f15)=true)
  (a16:PySem.W.nsIn K mainGlobals "_law_is_in"=some (some (.ref f16))) (l16:K.lookup f16=FO "_law_is_in" zB5 oc16 od16 kV16 dc16 pm16 an16 cd16 ct16 sl16) (c16:PySem.W.codeIn K cd16 "_law_is_in"=true) (k16:PySem.W.keepIn K (.ref f16)=true)
  (a17:PySem.W.nsIn K mainGlobals "_law_points"=some (some (.ref f17))) (l17:K.lookup f17=FO "_law_points" zBm oc17 od17 kV17 dc17 pm17 an17 cd17 ct17 sl17) (c17:PySem.W.codeIn K cd17 "_law_points"=true) (k17:PySem.W.keepIn K (.ref f17)=true)
  (a18:PySem.W.nsIn K mainGlobals "added"=some (some (.ref f18))) (l18:K.lookup f18=FO "added" zI4 oc18 od18 kV18 dc18 pm18 an18 cd18 ct18 sl18) (c18:PySem.W.codeIn K cd18 "added"=true) (k18:PySem.W.keepIn K (.ref f18)=true)
  (a19:PySem.W.nsIn K mainGlobals "times"=some (some (.ref f19))) (l19:K.lookup f19=FO "times" zI3 oc19 od19 kV19 dc19 pm19 an19 cd19 ct19 sl19) (c19:PySem.W.codeIn K cd19 "times"=true) (k19:PySem.W.keepIn K (.ref f19)=true)
  (a20:PySem.W.nsIn K mainGlobals "side_of"=some (some (.ref f20))) (l20:K.lookup f20=FO "side_of" zEo oc20 od20 kV20 dc20 pm20 an20 cd20 ct20 sl20) (c20:PySem.W.codeIn K cd20 "side_of"=true) (k20:PySem.W.keepIn K (.ref f20)=true)
  (a21:PySem.W.nsIn K mainGlobals "_law_in_hull"=some (some (.ref f21))) (l21:K.lookup f21=FO "_law_in_hull" zC1 oc21 od21 kV21 dc21 pm21 an21 cd21 ct21 sl21) (c21:PySem.W.codeIn K cd21 "_law_in_hull"=true) (k21:PySem.W.keepIn K (.ref f21)=true)
  (a22:PySem.W.nsIn K mainGlobals "_law_some"=some (some (.ref f22))) (l22:K.lookup f22=FO "_law_some" zBv oc22 od22 kV22 dc22 pm22 an22 cd22 ct22 sl22) (c22:PySem.W.codeIn K cd22 "_law_some"=true) (k22:PySem.W.keepIn K (.ref f22)=true)
  (a23:PySem.W.nsIn K mainGlobals "worth_at"=some (some (.ref f23))) (l23:K.lookup f23=FO "worth_at" zDw oc23 od23 kV23 dc23 pm23 an23 cd23 ct23 sl23) (c23:PySem.W.codeIn K cd23 "worth_at"=true) (k23:PySem.W.keepIn K (.ref f23)=true)
  (a24:PySem.W.nsIn K mainGlobals "left_turns"=some (some (.ref f24))) (l24:K.lookup f24=FO "left_turns" zCl oc24 od24 kV24 dc24 pm24 an24 cd24 ct24 sl24) (c24:PySem.W.codeIn K cd24 "left_turns"=true) (k24:PySem.W.keepIn K (.ref f24)=true)
  (a25:PySem.W.nsIn K mainGlobals "hull_of"=some (some (.ref f25))) (l25:K.lookup f25=FO "hull_of" zEr oc25 od25 kV25 dc25 pm25 an25 cd25 ct25 sl25) (c25:PySem.W.codeIn K cd25 "hull_of"=true) (k25:PySem.W.keepIn K (.ref f25)=true)
  (a26:PySem.W.nsIn K mainGlobals "sides_of"=some (some (.ref f26))) (l26:K.lookup f26=FO "sides_of" zCc oc26 od26 kV26 dc26 pm26 an26 cd26 ct26 sl26) (c26:PySem.W.codeIn K cd26 "sides_of"=true) (k26:PySem.W.keepIn K (.ref f26)=true)
  (a27:PySem.W.nsIn K mainGlobals "in_hull"=some (some (.ref f27))) (l27:K.lookup f27=FO "in_hull" zDf oc27 od27 kV27 dc27 pm27 an27 cd27 ct27 sl27) (c27:PySem.W.codeIn K cd27 "in_hull"=true) (k27:PySem.W.keepIn K (.ref f27)=true)
  (a28:PySem.W.nsIn K mainGlobals "law"=some (some (.ref f28))) (l28:K.lookup f28=FO "law" zK4 oc28 od28 kV28 dc28 pm28 an28 cd28 ct28 sl28) (c28:PySem.W.codeIn K cd28 "law"=true) (k28:PySem.W.keepIn K (.ref f28)=true)
  (z0:PySem.W.nsIn K mainGlobals "abs"=some none)
  (z1:PySem.W.nsIn K mainGlobals "all"=some none)
  (z2:PySem.W.nsIn K mainGlobals "bool"=some none)
  (z3:PySem.W.nsIn K mainGlobals "int"=some none)
  (z4:PySem.W.nsIn K mainGlobals "isinstance"=some none)
  (z5:PySem.W.nsIn K mainGlobals "len"=some none)
  (z6:PySem.W.nsIn K mainGlobals "list"=some none)
  (z7:PySem.W.nsIn K mainGlobals "max"=some none)
  (z8:PySem.W.nsIn K mainGlobals "min"=some none)
  (z9:PySem.W.nsIn K mainGlobals "range"=some none)
  (z10:PySem.W.nsIn K mainGlobals "reversed"=some none)
  (z11:PySem.W.nsIn K mainGlobals "set"=some none)
  (z12:PySem.W.nsIn K mainGlobals "sorted"=some none)
  (z13:PySem.W.nsIn K mainGlobals "tuple"=some none)
  (z14:PySem.W.nsIn K mainGlobals "zip"=some none)
  {ka0:Addr}{ko0:Option Addr}{kn0:Nat}{ks0:Array (Option Value)}{ka0_0:Addr}{ko0_0:Option Addr}{kn0_0:Nat}{ks0_0:Array (Option Value)}{kt0_0_0:Tok}{kt0_0_1:Tok}{ka0_1:Addr}{ko0_1:Option Addr}{kn0_1:Nat}{ks0_1:Array (Option Value)}{kt0_1_0:Tok}{kt0_1_1:Tok}{ka0_2:Addr}{ko0_2:Option Addr}{kn0_2:Nat}{ks0_2:Array (Option Value)}{kt0_2_0:Tok}{kt0_2_1:Tok}{ka0_3:Addr}{ko0_3:Option Addr}{kn0_3:Nat}{ks0_3:Array (Option Value)}{kt0_3_0:Tok}{kt0_3_1:Tok}(e0:PySem.W.nsIn K mainGlobals "ALL_WAYS"=some (some (.ref ka0))) (kh0:K.lookup ka0=some ⟨.type "tuple",ko0,.seq #[(.ref ka0_0),(.ref ka0_1),(.ref ka0_2),(.ref ka0_3)] kn0,ks0⟩) (kh0_0:K.lookup ka0_0=some ⟨.type "tuple",ko0_0,.seq #[(.int (1) kt0_0_0),(.int (0) kt0_0_1)] kn0_0,ks0_0⟩) (kh0_1:K.lookup ka0_1=some ⟨.type "tuple",ko0_1,.seq #[(.int (0) kt0_1_0),(.int (1) kt0_1_1)] kn0_1,ks0_1⟩) (kh0_2:K.lookup ka0_2=some ⟨.type "tuple",ko0_2,.seq #[(.int (-1) kt0_2_0),(.int (0) kt0_2_1)] kn0_2,ks0_2⟩) (kh0_3:K.lookup ka0_3=some ⟨.type "tuple",ko0_3,.seq #[(.int (0) kt0_3_0),(.int (-1) kt0_3_1)] kn0_3,ks0_3⟩)
  : ∃fd:FuncData,(∀(s:Shared) (v:Value),BindsTo s fd ⟨[v],[]⟩ [("_law_script",v)])/\∀base:Heap,K.In base->base.Ns mainGlobals mg->FnOk l.prog w K mg base CX0 8 fa fd ["_law_script"] (spOf K XE0 DP.zN4):=by
 have e:=hfa.symm.trans (xy X G a28)
 cases e
 have T:Txt K mg:=⟨vh X G z0,vh X G z1,vh X G z2,vh X G z3,vh X G z4,vh X G z5,vh X G z6,vh X G z7,vh X G z8,vh X G z9,vh X G z10,vh X G z11,vh X G z12,vh X G z13,vh X G z14,⟨_,xy X G e0,(zEv kh0 (show 4<=sizeLine by decide) (.cons (zEv kh0_0 (show 2<=sizeLine by decide) (.cons zCm (.cons zCm .nil))) (.cons (zEv kh0_1 (show 2<=sizeLine by decide) (.cons zCm (.cons zCm .nil))) (.cons (zEv kh0_2 (show 2<=sizeLine by decide) (.cons zCm (.cons zCm .nil))) (.cons (zEv kh0_3 (show 2<=sizeLine by decide) (.cons zCm (.cons zCm .nil))) .nil)))))⟩⟩
 have F0:=zAx (st:=zBd) l0 c0 k0
 have F1:=zAx (st:=zEq) l1 c1 k1
 have F2:=zAx (st:=zDx) l2 c2 k2
 have F3:=zAx (st:=zI2) l3 c3 k3
 have F4:=zAx (st:=zEn) l4 c4 k4
 have F5:=zAx (st:=zCk) l5 c5 k5
 have F6:=zAx (st:=zBw) l6 c6 k6
 have F7:=zAx (st:=zD0) l7 c7 k7
 have F8:=zAx (st:=zCz) l8 c8 k8
 have F9:=zAx (st:=zBn) l9 c9 k9
 have F10:=zAx (st:=zB4) l10 c10 k10
 have F11:=zAx (st:=zAv) l11 c11 k11
 have F12:=zAx (st:=zDz) l12 c12 k12
 have F13:=zAx (st:=zEp) l13 c13 k13
 have F14:=zAx (st:=zDy) l14 c14 k14
 have F15:=zAx (st:=zC2) l15 c15 k15
 have F16:=zAx (st:=zB5) l16 c16 k16
 have F17:=zAx (st:=zBm) l17 c17 k17
 have F18:=zAx (st:=zI4) l18 c18 k18
 have F19:=zAx (st:=zI3) l19 c19 k19
 have F20:=zAx (st:=zEo) l20 c20 k20
 have F21:=zAx (st:=zC1) l21 c21 k21
 have F22:=zAx (st:=zBv) l22 c22 k22
 have F23:=zAx (st:=zDw) l23 c23 k23
 have F24:=zAx (st:=zCl) l24 c24 k24
 have F25:=zAx (st:=zEr) l25 c25 k25
 have F26:=zAx (st:=zCc) l26 c26 k26
 have F27:=zAx (st:=zDf) l27 c27 k27
 have F28:=zAx (st:=zK4) l28 c28 k28
 refine⟨PySem.W.fnOf "law" "law" (zFd zK4) (zD4 zK4) (zA6 zK4) .none kV28 dc28 pm28 an28 cd28 ct28,fun s v=>.of_eq rfl,fun base _ _=>?_⟩
 have C_common_divisor:zDb l.prog w K mg base:=⟨_,_,zF6 F0 T,xy X G a0,F0.kp,F0.binds (ps:=["one","other"]) fun _ _ _ _ _ _ _ hl=>by obtain⟨_,_,rfl⟩:=ul2 hl;rfl⟩
 have C_is_less:zJu l.prog w K mg base:=⟨_,_,zMu F1 T,xy X G a1,F1.kp,F1.binds (ps:=["one","other"]) fun _ _ _ _ _ _ _ hl=>by obtain⟨_,_,rfl⟩:=ul2 hl;rfl⟩
 have C_point_of:zHq l.prog w K mg base:=⟨_,_,zK9 F2 T,xy X G a2,F2.kp,F2.binds (ps:=["cell"]) fun _ _ _ _ _ _ _ hl=>by obtain⟨_,rfl⟩:=ul1 hl;rfl⟩
 have C_worth:zQp l.prog w K mg base:=⟨_,_,zRu F3 T,xy X G a3,F3.kp,F3.binds (ps:=["slope","cell"]) fun _ _ _ _ _ _ _ hl=>by obtain⟨_,_,rfl⟩:=ul2 hl;rfl⟩
 have C_sign_of:zJr l.prog w K mg base:=⟨_,_,zMr F4 T,xy X G a4,F4.kp,F4.binds (ps:=["number"]) fun _ _ _ _ _ _ _ hl=>by obtain⟨_,rfl⟩:=ul1 hl;rfl⟩
 have C_neighbours:zFo l.prog w K mg base:=⟨_,_,zI5 F5 T,xy X G a5,F5.kp,F5.binds (ps:=["ring"]) fun _ _ _ _ _ _ _ hl=>by obtain⟨_,rfl⟩:=ul1 hl;rfl⟩
 have C__law_deal:zH3 l.prog w K mg base:=⟨_,_,zJ2 F6 T,xy X G a6,F6.kp,F6.binds (ps:=["_law_script"]) fun _ _ _ _ _ _ _ hl=>by obtain⟨_,rfl⟩:=ul1 hl;rfl⟩
 have C__law_draw:zD9 l.prog w K mg base:=⟨_,_,zJ1 F7 T,xy X G a7,F7.kp,F7.binds (ps:=["_law_deal_here","_law_many"]) fun _ _ _ _ _ _ _ hl=>by obtain⟨_,_,rfl⟩:=ul2 hl;rfl⟩
 have C__law_turn:zH1 l.prog w K mg base:=⟨_,_,zIz F8 T,xy X G a8,F8.kp,F8.binds (ps:=n_17) fun _ _ _ _ _ _ _ hl=>by obtain⟨_,_,_,rfl⟩:=ul3 hl;rfl⟩
 have C__law_fraction:zDt l.prog w K mg base:=⟨_,_,zFv F9 T,xy X G a9,F9.kp,F9.binds (ps:=["_law_upper","_law_lower"]) fun _ _ _ _ _ _ _ hl=>by obtain⟨_,_,rfl⟩:=ul2 hl;rfl⟩
 have C__law_is_worth:zDs l.prog w K mg base:=⟨_,_,zFu F10 T,xy X G a10,F10.kp,F10.binds (ps:=["_law_sides","_law_point"]) fun _ _ _ _ _ _ _ hl=>by obtain⟨_,_,rfl⟩:=ul2 hl;rfl⟩
 have C__law_sides_right:zCq l.prog w K mg base:=⟨_,_,zEh F11 T,xy X G a11,F11.kp,F11.binds (ps:=["_law_cells_here","_law_sides"]) fun _ _ _ _ _ _ _ hl=>by obtain⟨_,_,rfl⟩:=ul2 hl;rfl⟩
 have C_fraction:zFi l.prog w K mg base:=⟨_,_,zKa F12 T C_common_divisor,xy X G a12,F12.kp,F12.binds (ps:=["upper","lower"]) fun _ _ _ _ _ _ _ hl=>by obtain⟨_,_,rfl⟩:=ul2 hl;rfl⟩
 have C_side_at:zJt l.prog w K mg base:=⟨_,_,zMt F13 T C_sign_of,xy X G a13,F13.kp,F13.binds (ps:=n_18) fun _ _ _ _ _ _ _ hl=>by obtain⟨_,_,_,rfl⟩:=ul3 hl;rfl⟩
 have C_inward:zMh l.prog w K mg base:=⟨_,_,zP2 F14 T C_neighbours,xy X G a14,F14.kp,F14.binds (ps:=["corners"]) fun _ _ _ _ _ _ _ hl=>by obtain⟨_,rfl⟩:=ul1 hl;rfl⟩
 have C__law_cells:zFr l.prog w K mg base:=⟨_,_,zI8 F15 T C__law_draw,xy X G a15,F15.kp,F15.binds (ps:=["_law_deal_here","_law_many"]) fun _ _ _ _ _ _ _ hl=>by obtain⟨_,_,rfl⟩:=ul2 hl;rfl⟩
 have C__law_is_in:zFq l.prog w K mg base:=⟨_,_,zI7 F16 T C__law_turn,xy X G a16,F16.kp,F16.binds (ps:=["_law_some_here","_law_point"]) fun _ _ _ _ _ _ _ hl=>by obtain⟨_,_,rfl⟩:=ul2 hl;rfl⟩
 have C__law_points:zF3 l.prog w K mg base:=⟨_,_,zH7 F17 T C__law_draw,xy X G a17,F17.kp,F17.binds (ps:=["_law_deal_here","_law_cells_here"]) fun _ _ _ _ _ _ _ hl=>by obtain⟨_,_,rfl⟩:=ul2 hl;rfl⟩
 have C_added:zQr l.prog w K mg base:=⟨_,_,zRw F18 T C_fraction,xy X G a18,F18.kp,F18.binds (ps:=["one","other"]) fun _ _ _ _ _ _ _ hl=>by obtain⟨_,_,rfl⟩:=ul2 hl;rfl⟩
 have C_times:zQq l.prog w K mg base:=⟨_,_,zRv F19 T C_fraction,xy X G a19,F19.kp,F19.binds (ps:=["one","other"]) fun _ _ _ _ _ _ _ hl=>by obtain⟨_,_,rfl⟩:=ul2 hl;rfl⟩
 have C_side_of:zJs l.prog w K mg base:=⟨_,_,zMs F20 T C_side_at C_point_of,xy X G a20,F20.kp,F20.binds (ps:=n_19) fun _ _ _ _ _ _ _ hl=>by obtain⟨_,_,_,rfl⟩:=ul3 hl;rfl⟩
 have C__law_in_hull:zEf l.prog w K mg base:=⟨_,_,zGb F21 T C__law_is_in,xy X G a21,F21.kp,F21.binds (ps:=["_law_cells_here","_law_point"]) fun _ _ _ _ _ _ _ hl=>by obtain⟨_,_,rfl⟩:=ul2 hl;rfl⟩
 have C__law_some:zH2 l.prog w K mg base:=⟨_,_,zJ0 F22 T C__law_cells C__law_draw,xy X G a22,F22.kp,F22.binds (ps:=["_law_deal_here"]) fun _ _ _ _ _ _ _ hl=>by obtain⟨_,rfl⟩:=ul1 hl;rfl⟩
 have C_worth_at:zHp l.prog w K mg base:=⟨_,_,zK7 F23 T C_times C_added,xy X G a23,F23.kp,F23.binds (ps:=["slope","point"]) fun _ _ _ _ _ _ _ hl=>by obtain⟨_,_,rfl⟩:=ul2 hl;rfl⟩
 have C_left_turns:zFp l.prog w K mg base:=⟨_,_,zI6 F24 T C_side_of,xy X G a24,F24.kp,F24.binds (ps:=["cells"]) fun _ _ _ _ _ _ _ hl=>by obtain⟨_,rfl⟩:=ul1 hl;rfl⟩
 have C_hull_of:zJw l.prog w K mg base:=⟨_,_,zMw F25 T C_left_turns,xy X G a25,F25.kp,F25.binds (ps:=["cells"]) fun _ _ _ _ _ _ _ hl=>by obtain⟨_,rfl⟩:=ul1 hl;rfl⟩
 have C_sides_of:zFh l.prog w K mg base:=⟨_,_,zK8 F26 T C_hull_of C_inward C_worth,xy X G a26,F26.kp,F26.binds (ps:=["cells"]) fun _ _ _ _ _ _ _ hl=>by obtain⟨_,rfl⟩:=ul1 hl;rfl⟩
 have C_in_hull:zJv l.prog w K mg base:=⟨_,_,zMv F27 T C_is_less C_sides_of C_worth_at,xy X G a27,F27.kp,F27.binds (ps:=["cells","point"]) fun _ _ _ _ _ _ _ hl=>by obtain⟨_,_,rfl⟩:=ul2 hl;rfl⟩
 exact zYv F28 T C__law_deal C__law_some C_sides_of C__law_points C__law_sides_right C__law_in_hull C_in_hull C__law_fraction C__law_is_worth
theorem walk {l:PySem.W.OpenLaw}{q:Program}{loose:List Str}{XP:(Str->Option Value)->Heap->Prop}{YP:World->Heap->Prop}{d:DefRec}{K:Params->PySem.W.Frag}(hn:l.most=some 63) (hdf:d.params.defaults=[])
  (hY:∀(w:World) (h:Heap),YP w h->(K w.params).In h)
  (F:∀(w:World) (mg:Str->Option Value) (fa:Addr) (h:Heap),(K w.params).In h->h.Ns mainGlobals mg->mg d.name=some (.ref fa)->
   ∃fd:FuncData,(∀(s:Shared) (u:Value),BindsTo s fd ⟨[u],[]⟩ [("_law_script",u)])/\∀base:Heap,(K w.params).In base->base.Ns mainGlobals mg->FnOk l.prog w (K w.params) mg base CX0 8 fa fd ["_law_script"] (spOf (K w.params) XE0 DP.zN4)):
  PySem.W.WalkO q loose XP YP l.row.toRowW d [] (fun f vs=>PySem.call f vs):=
 L2.walk_of (n:=63) (k:=8) (x:="_law_script") (CX:=fun _=>CX0) (sp:=fun w=>spOf (K w.params) XE0 DP.zN4) hn (by decide) hdf ⟨rfl,by decide,by decide⟩ hY F (fun _ _ a ns hl _ hS=>zO4 (DP.law_ok ns hl) hS) fun _ _ _ _ _ z=>z
end Law
open PySem PySem.W PyProof.Rows
set_option maxRecDepth 100000 in
theorem PySem.Challenge.cw_healfloor_k72_points_in_hulls_holds : PySem.Challenge.rw_healfloor_k72_points_in_hulls.Holds := by
 w_on;o_law;k_head;(case hw=>w_witness2)
 k_fill
 refine Law.walk (l:=PySem.Challenge.rw_healfloor_k72_points_in_hulls) rfl rfl (fun w h Y=>PySem.W.kIn_of Y) ?F
 case F=>
  intro w mg fa h KX G hmg
  refine' Law.all_mk KX G hmg ?_ ?_ ?_ ?_ ?_ ?_ ?_ ?_ ?_ ?_ ?_ ?_ ?_ ?_ ?_ ?_ ?_ ?_ ?_ ?_ ?_ ?_ ?_ ?_ ?_ ?_ ?_ ?_ ?_ ?_ ?_ ?_ ?_ ?_ ?_ ?_ ?_ ?_ ?_ ?_ ?_ ?_ ?_ ?_ ?_ ?_ ?_ ?_ ?_ ?_ ?_ ?_ ?_ ?_ ?_ ?_ ?_ ?_ ?_ ?_ ?_ ?_ ?_ ?_ ?_ ?_ ?_ ?_ ?_ ?_ ?_ ?_ ?_ ?_ ?_ ?_ ?_ ?_ ?_ ?_ ?_ ?_ ?_ ?_ ?_ ?_ ?_ ?_ ?_ ?_ ?_ ?_ ?_ ?_ ?_ ?_ ?_ ?_ ?_ ?_ ?_ ?_ ?_ ?_ ?_ ?_ ?_ ?_ ?_ ?_ ?_ ?_ ?_ ?_ ?_ ?_ ?_ ?_ ?_ ?_ ?_ ?_ ?_ ?_ ?_ ?_ ?_ ?_ ?_ ?_ ?_ ?_ ?_ ?_ ?_ ?_ ?_
  all_goals (try k_is)
#print axioms PySem.Challenge.cw_healfloor_k72_points_in_hulls_holds
