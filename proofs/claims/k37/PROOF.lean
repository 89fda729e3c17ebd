import PyProof.Rows.All
import Wide.All
import OpenK.AllK
import PySem.Challenge.RW_liftwave_k37_cone_alone
open Array(getElem?_toList length_toList toList_append toList_extract toList_push toList_reverse)
open Bool(and_eq_true false_eq_true or_eq_true)
open Int(ediv_nonneg emod_lt_of_pos emod_nonneg mul_assoc mul_nonneg mul_one not_lt pow_succ sub_mul toNat_natCast toNat_of_nonneg)
open List(all_cons all_eq_true any_cons any_eq_true any_map append_assoc append_nil cons_append ext_getElem ext_getElem? extract_eq_take_drop filterMap_cons_some filter_cons flatMap_cons foldl_append foldl_cons forall_mem_cons getD_eq_getElem?_getD getElem?_append_left getElem?_append_right getElem?_eq_getElem getElem?_eq_none getElem?_map getElem?_range getElem?_reverse getElem?_set getElem?_set_ne getElem?_set_self getElem?_zip_eq_some getElem_mem length_append length_cons length_drop length_filter_le length_map length_nil length_range length_reverse length_set length_take length_zip lookup_cons map_append map_congr_left map_cons map_drop map_id map_map map_nil map_reverse mem_append mem_append_left mem_append_right mem_cons mem_cons_of_mem mem_cons_self mem_filter mem_flatMap mem_flatten mem_iff_getElem mem_map mem_of_getElem? mem_of_mem_take mem_range mem_replicate mem_reverse mem_singleton nil_append nodup_append nodup_cons nodup_nil not_mem_nil of_mem_zip pairwise_append pairwise_lt_range range_succ reverse_append set_comm set_cons_succ set_cons_zero set_set size_toArray sum_append take_append_drop take_length take_of_length_le take_succ_eq_append_getElem take_zero)
open Nat(add_sub_cancel add_zero le_add_right le_succ lt_irrefl lt_of_lt_of_le lt_or_ge lt_succ_of_lt lt_succ_self lt_trans min_self mul_le_mul mul_mod_left ne_of_gt ne_of_lt not_lt_zero pow_pos succ_mul zero_le zero_mul)
open Option(getD_none map_eq_some_iff map_some)
open PySem(boot_len)
open PySem.F(plainAttrs_list slot_list_extend slot_list_getattribute type_list_extend)
open PySem.Heap(get?_push_of_some get?_push_size get?_update_other get?_update_self lt_size size_push)
open PySem.W(Frag binds_K callWith_K codeIn findIn fnOf instObj keepIn kia_one kitOne kitx_dict kitx_list kitx_tuple lookIn methodObj mg_of nsIn plainGet)
set_option Elab.async false
set_option compiler.extract_closed false
set_option bootstrap.genMatcherCode false
set_option linter.all false
set_option maxRecDepth 100000
set_option hygiene false
local macro_rules |`(tactic|kj_on)=>`(tactic| (intro X hP hw hK hc i pins s O H E I hf st hg;subst hP hw hK))
set_option hygiene true
namespace L2
open PySem PySem.Spec PyProof.Rows
abbrev Key:=Sum Int Str
def keyIs:Key->Value->Bool
 | .inl k,v=>Value.isInt k v
 | .inr x,v=>Value.isStrOf x v
def keyH (w:World):Key->Int
 | .inl k=>hashInt k
 | .inr x=>hashStr w x
theorem keyIs_shape:∀{k:Key} {v:Value},keyIs k v=true->(∃i t,k=Sum.inl i/\v=Value.int i t)∨(∃x t,k=Sum.inr x/\v=Value.str x t)
 | .inl i,v,h=>by
  obtain⟨t,e⟩:=Value.isInt_shape h
  exact .inl ⟨i,t,rfl,e⟩
 | .inr x,v,h=>by
  obtain⟨t,e⟩:=Value.isStrOf_shape h
  exact .inr ⟨x,t,rfl,e⟩
theorem keyIs_int (i:Int)(t:Tok):keyIs (.inl i) (.int i t)=true:=by simp[keyIs,Value.isInt]
theorem keyIs_str (x:Str)(t:Tok):keyIs (.inr x) (.str x t)=true:=by simp[keyIs,Value.isStrOf]
theorem key_ll (a b:Int):decide ((Sum.inl a:Key)=Sum.inl b)=(a==b):=by
 by_cases e:a=b
 .subst e;simp
 .have h:¬ (Sum.inl a:Key)=Sum.inl b:=λq=>e (Sum.inl.inj q)
  rw[decide_eq_false h]
  exact (beq_eq_false_iff_ne.mpr e).symm
theorem key_rr (a b:Str):decide ((Sum.inr a:Key)=Sum.inr b)=decide (a=b):=by
 by_cases e:a=b
 .subst e;simp
 .have h:¬ (Sum.inr a:Key)=Sum.inr b:=λq=>e (Sum.inr.inj q)
  rw[decide_eq_false h,decide_eq_false e]
theorem key_lr (a:Int)(b:Str):decide ((Sum.inl a:Key)=Sum.inr b)=false:=decide_eq_false (λq=>nomatch q)
theorem key_rl (a:Str)(b:Int):decide ((Sum.inr a:Key)=Sum.inl b)=false:=decide_eq_false (λq=>nomatch q)
def mixKind (prog:Program)(w:World):PySem.KeyKind prog w Key where
 is:=keyIs
 hash:=keyH w
 inj := λv a b ha hb=>by
  rcases keyIs_shape ha with⟨i,t,rfl,rfl⟩ | ⟨x,t,rfl,rfl⟩
  .rcases keyIs_shape hb with⟨j,u,rfl,e⟩ | ⟨y,u,rfl,e⟩
   .injection e with e1 _;rw[e1]
   .exact nomatch e
  .rcases keyIs_shape hb with⟨j,u,rfl,e⟩ | ⟨y,u,rfl,e⟩
   .exact nomatch e
   .injection e with e1 _;rw[e1]
 byValue:=λk v h=>by
  rcases keyIs_shape h with⟨i,t,rfl,rfl⟩ | ⟨x,t,rfl,rfl⟩<;>rfl
 pyHash:=λhv h=>by
  rcases keyIs_shape hv with⟨i,t,rfl,rfl⟩ | ⟨x,t,rfl,rfl⟩
  .exact wpAny_pyHash_int h
  .exact wpAny_pyHash_str h
 eqBool:=λhu hv h=>by
  rcases keyIs_shape hu with⟨i,t,rfl,rfl⟩ | ⟨x,t,rfl,rfl⟩
  .rcases keyIs_shape hv with⟨j,u,rfl,rfl⟩ | ⟨y,u,rfl,rfl⟩
   .rw [key_ll]at h;exact wpAny_eqBool_int h
   .rw [key_lr]at h;exact SeqAt.EqAt.int_str i t y u _ _ _ _ h
  .rcases keyIs_shape hv with⟨j,u,rfl,rfl⟩ | ⟨y,u,rfl,rfl⟩
   .rw [key_rl]at h;exact SeqAt.EqAt.str_int x t j u _ _ _ _ h
   .rw [key_rr]at h;exact wpAny_eqBool_str h
 «strs»:=λk x t v h=>by
  rcases keyIs_shape h with⟨i,u,rfl,e⟩ | ⟨y,u,rfl,e⟩
  .exact nomatch e
  .injection e with e1 _
   subst e1
   cases v<;>rfl
theorem mixKind_int (prog:Program)(w:World)(i:Int)(t:Tok):(mixKind prog w).is (.inl i) (.int i t)=true:=keyIs_int i t
theorem mixKind_str (prog:Program)(w:World)(x:Str)(t:Tok):(mixKind prog w).is (.inr x) (.str x t)=true:=keyIs_str x t
inductive V where
 |non |bl (b:Bool) |int (i:Int) |str (x:Str) |byt (b:Array UInt8) |flt (b:UInt64) |ref (a:Addr) |ty (n:String)
 deriving DecidableEq
def RelV:V->Value->Prop
 | .non,u=>u=Value.none
 | .bl b,u=>u=Value.bool b
 | .int i,u=>∃t,u=Value.int i t
 | .str x,u=>∃t,u=Value.str x t
 | .byt b,u=>∃t,u=Value.bytes b t
 | .flt b,u=>∃t,u=Value.float b t
 | .ref a,u=>u=Value.ref a
 | .ty n,u=>u=Value.type n
abbrev Vals:List V->List Value->Prop:=Paired RelV
theorem Vals.length {xs:List V}{us:List Value}(r:Vals xs us):xs.length=us.length:=Paired.length r
theorem Vals.get:∀{xs:List V} {us:List Value} {i:Nat} {x:V},Vals xs us->xs[i]?=some x->∃u,us[i]?=some u/\RelV x u
 |_,_,_,_,.nil,e=>by simp at e
 |_,_,0,_,.cons r _,e=>by simp at e;subst e;exact⟨_,rfl,r⟩
 |_,_,i+1,x,.cons _ t,e=>by
  obtain⟨u,h1,h2⟩:=Vals.get t e
  exact⟨u,h1,h2⟩
theorem Vals.set {x:V}{u:Value}(r:RelV x u):∀{xs:List V} {us:List Value} (i:Nat),Vals xs us->Vals (xs.set i x) (us.set i u)
 |_,_,_,.nil=>.nil
 |_,_,0,.cons _ t=>.cons r t
 |_,_,i+1,.cons q t=>.cons q (Vals.set r i t)
theorem Vals.append:∀{xs ys:List V} {us ws:List Value},Vals xs us->Vals ys ws->Vals (xs++ys) (us++ws)
 |_,_,_,_,.nil,s=>s
 |_,_,_,_,.cons r t,s=>.cons r (Vals.append t s)
theorem Vals.take:∀{xs:List V} {us:List Value} (n:Nat),Vals xs us->Vals (xs.take n) (us.take n)
 |_,_,0,_=>.nil
 |_,_,_+1,.nil=>.nil
 |_,_,n+1,.cons r t=>.cons r (Vals.take n t)
theorem Vals.drop:∀{xs:List V} {us:List Value} (n:Nat),Vals xs us->Vals (xs.drop n) (us.drop n)
 |_,_,0,r=>r
 |_,_,_+1,.nil=>.nil
 |_,_,n+1,.cons _ t=>Vals.drop n t
def RelO:Option V->Option Value->Prop
 |some v,some u=>RelV v u
 |none,none=>True
 |_,_=>False
def KV {κ:Type}:List (κ×V)->List (κ×Value)->Prop:=Paired λ(p:κ×V) (q:κ×Value)=>p.1=q.1/\RelV p.2 q.2
def kV:Key->V
 | .inl i=>.int i
 | .inr x=>.str x
inductive HO where
  |lst (xs:List V)
  |tup (xs:List V)
  |dK (kvs:List (Key×V)) |dT (kvs:List (List Key×V))
  |set (S:Int->Bool) (n:Nat)
  |ins (C dx:Addr) (fs:List (Str×V))
  |own (x:Addr)
  |xd (fs:List (Str×V))
  |met (f x:Addr)
  |rng (lo hi:Int)
  |frz (o:Obj) (u:HO)
  |tbl (ps:Array Value)
 |cod (p:Pos) (q:Str)
  |ext (φ:Heap->Prop)
def isCod (oc:Obj)(q:Str):Prop:=∃vs t,oc.data = .fields vs/\vs[1]?=some (.str q t)
def refd (u:HO):Prop:=(∃xs,u = .tup xs)∨∃oc c q,u = .frz oc (.own c)/\isCod oc q
abbrev Hp:=Addr->Option HO
def upd (H:Hp)(a:Addr)(o:HO):Hp:=λb=>if b=a then some o else H b
theorem upd_same {H:Hp}{a:Addr}{o:HO}:upd H a o a=some o:=by unfold upd;rw[if_pos rfl]
theorem upd_ne {H:Hp}{a b:Addr}{o:HO}(h:b≠a):upd H a o b=H b:=by unfold upd;rw[if_neg h]
theorem ne_of_none {H:Hp}{a b:Addr}{o:HO}(h:H a=some o)(h':H b=none):a≠b:=by
 intro e;subst e;rw[h]at h';cases h'
section
variable (P:Program)(w:World)
def ObjOk (H:Hp)(h:Heap)(a:Addr):HO->Prop
 | .lst xs=>xs.length<=sizeLine/\∃(its:List Value) (n:Nat),Vals xs its/\h.get? a=some {cls:=.type "list",data:=.seq its.toArray n}
 | .tup xs=>xs.length<=sizeLine/\∃its:List Value,Vals xs its/\IsTup h a its.toArray
 | .dK kvs=>kvs.length<=sizeLine/\(a==sysModules)=false/\∃vs,KV kvs vs/\h.DictOf (mixKind P w) a vs
 | .dT kvs=>kvs.length<=sizeLine/\(a==sysModules)=false/\∃xs:List (List Key×Addr×Value),
   Paired (λ(p:List Key×V) (q:List Key×Addr×Value)=>p.1=q.1/\H q.2.1=some (.tup (p.1.map kV))/\RelV p.2 q.2.2) kvs xs/\
   ∃o es ep,h.get? a=some o/\o.ExactDict/\o.data = .dict es ep/\es.toList=xs.map (entryOfKey (tupleKind (mixKind P w)))/\(xs.map (·.1)).Nodup
 | .set S n=>h.SetOf (intKind P w) a S n
 | .ins C dx fs=>H dx=some (.own a)/\fs.length<=1000/\dx≠a/\h.get? a=some (instObj C dx)/\
   ∃mA,h.Ns1 dx mA/\(∀f,RelO (fs.lookup f) (mA f))/\PySem.Within mA (fs.map (·.1))
 | .own _=>∃o,h.get? a=some o
 | .xd fs=>∃mA,h.Ns1 a mA/\∀f,RelO (fs.lookup f) (mA f)
 | .rng lo hi=>∃t u v,h.get? a=some {cls:=.type "range",data:=.fields #[.int lo t,.int hi u,.int 1 v]}
 | .frz o u=>h.get? a=some o/\ObjOk H h a u
 | .tbl ps=>h.get? a=some {cls:=.none,data:=.fields ps}
 | .cod p q=>∃ps:Array Value,h.get? a=some {cls:=.none,data:=.fields ps}/\TriplesOk ps.toList/\∀v,codeAmong p ps.toList=some v->∃c oc,v = .ref c/\H c=some (.frz oc (.own c))/\isCod oc q
 | .met f x=>h.get? a=some (methodObj (.ref f) (.ref x))
 | .ext φ=>φ h/\(∃o,h.get? a=some o)/\∀h1 h2:Heap,φ h1->(∀o,h1.get? a=some o->h2.get? a=some o)->φ h2
def HOk (H:Hp)(h:Heap):Prop:=∀a o,H a=some o->ObjOk P w H h a o
end
section
variable {P:Program}{w:World}{H H':Hp}{h h':Heap}{a:Addr}{o:HO}
theorem ObjOk.lt (x:ObjOk P w H h a o):a<h.objs.size:=by
 cases o with
 |lst xs=>obtain⟨_,_,_,_,e⟩:=x;exact lt_size e
 |tup xs=>obtain⟨_,_,_,p⟩:=x;exact p.lt
 |dK kvs=>obtain⟨_,_,_,_,o,_,_,e,_⟩:=x;exact lt_size e
 |dT kvs=>obtain⟨_,_,_,_,o,_,_,e,_⟩:=x;exact lt_size e
 |set S n=>obtain⟨o,_,_,_,e,_⟩:=x;exact lt_size e
 |ins C dx fs=>obtain⟨_,_,_,e,_⟩:=x;exact lt_size e
 |own y=>obtain⟨_,e⟩:=x;exact lt_size e
 |xd fs=>obtain⟨_,⟨_,_,_,e,_⟩,_⟩:=x;exact lt_size e
 |rng lo hi=>obtain⟨_,_,_,e⟩:=x;exact lt_size e
 |frz ob u=>obtain⟨e,_⟩:=x;exact lt_size e
 |tbl ps=>exact lt_size (show h.get? a=some _ from x)
 |cod p q=>obtain⟨_,e,_⟩:=x;exact lt_size e
 |met f y=>exact lt_size (show h.get? a=some _ from x)
 |ext φ=>obtain⟨_,⟨_,e⟩,_⟩:=x;exact lt_size e
theorem Paired.mapP {α β:Type}{F G:α->β->Prop}:∀{l₁:List α} {l₂:List β},Paired F l₁ l₂->(∀a b,F a b->G a b)->Paired G l₁ l₂
 |_,_,.nil,_=>.nil
 |_,_,.cons r t,f=>.cons (f _ _ r) (Paired.mapP t f)
theorem ObjOk.stay (x:ObjOk P w H h a o)(k:∀b u,(b=a∨H b=some (.own a))->h.get? b=some u->h'.get? b=some u)
  (ho:∀b,H b=some (.own a)->H' b=some (.own a)) (ht:∀b u,H b=some u->refd u->H' b=some u):ObjOk P w H' h' a o:=by
 induction o with
 |lst xs=>obtain⟨z,its,n,r,e⟩:=x;exact⟨z,its,n,r,k _ _ (.inl rfl) e⟩
 |tup xs=>obtain⟨z,its,r,ob,e,c⟩:=x;exact⟨z,its,r,ob,k _ _ (.inl rfl) e,c⟩
 |dK kvs=>obtain⟨z,y,vs,r,ob,es,ep,e,c⟩:=x;exact⟨z,y,vs,r,ob,es,ep,k _ _ (.inl rfl) e,c⟩
 |dT kvs=>
  obtain⟨z,y,xs,r,ob,es,ep,e,c⟩:=x
  exact⟨z,y,xs,Paired.mapP r λp q z=>⟨z.1,ht _ _ z.2.1 (.inl ⟨_,rfl⟩),z.2.2⟩,ob,es,ep,k _ _ (.inl rfl) e,c⟩
 |set S n=>obtain⟨ob,es,ep,t,e,c⟩:=x;exact⟨ob,es,ep,t,k _ _ (.inl rfl) e,c⟩
 |ins C dx fs=>
  obtain⟨d,z,ne,e,mA,⟨od,es,ep,e2,c⟩,r⟩:=x
  exact⟨ho _ d,z,ne,k _ _ (.inl rfl) e,mA,⟨od,es,ep,k _ _ (.inr d) e2,c⟩,r⟩
 |own y=>obtain⟨ob,e⟩:=x;exact⟨ob,k _ _ (.inl rfl) e⟩
 |xd fs=>obtain⟨mA,⟨od,es,ep,e,c⟩,r⟩:=x;exact⟨mA,⟨od,es,ep,k _ _ (.inl rfl) e,c⟩,r⟩
 |rng lo hi=>obtain⟨t,u,v,e⟩:=x;exact⟨t,u,v,k _ _ (.inl rfl) e⟩
 |frz ob u ih=>obtain⟨e,q⟩:=x;exact⟨k _ _ (.inl rfl) e,ih q⟩
 |tbl ps=>
  have e:h.get? a=some {cls:=.none,data:=.fields ps}:=x
  show h'.get? a=some {cls:=.none,data:=.fields ps}
  exact k a _ (.inl rfl) e
 |cod p q=>
  obtain⟨ps,e,ht',hc⟩:=x
  exact⟨ps,k _ _ (.inl rfl) e,ht',λv hv=>let⟨c,oc,e1,e2,e3⟩:=hc v hv;⟨c,oc,e1,ht _ _ e2 (.inr ⟨_,_,_,rfl,e3⟩),e3⟩⟩
 |met f y=>
  have e:h.get? a=some (methodObj (.ref f) (.ref y)):=x
  show h'.get? a=some (methodObj (.ref f) (.ref y))
  exact k a _ (.inl rfl) e
 |ext φ=>obtain⟨p,⟨o,e⟩,st⟩:=x;exact⟨st _ _ p λo q=>k _ _ (.inl rfl) q,⟨o,k _ _ (.inl rfl) e⟩,st⟩
theorem HOk.lt (x:HOk P w H h)(e:H a=some o):a<h.objs.size:=(x a o e).lt
theorem HOk.fresh (x:HOk P w H h)(e:h.objs.size<=a):H a=none:=by
 cases q:H a with
 |none=>rfl
 |some u=>exact absurd (lt_of_lt_of_le (x.lt q) e) (lt_irrefl _)
theorem HOk.kept (x:HOk P w H h)(k:∀b u,h.get? b=some u->h'.get? b=some u):HOk P w H h':=λa o e=>
 (x a o e).stay (λb u _ q=>k b u q) (λ_ q=>q) λ_ _ q _=>q
theorem HOk.laid (x:HOk P w H h)(k:∀b u,h.get? b=some u->h'.get? b=some u)(hp:h.objs.size<=a)(new:ObjOk P w (upd H a o) h' a o):HOk P w (upd H a o) h':=λb u e=>by
 have hn:=x.fresh hp
 by_cases hb:b=a
 .subst hb;rw[upd_same]at e;cases e;exact new
 .rw [upd_ne hb]at e
  exact (x b u e).stay (λc v _ q=>k c v q) (λc q=>by rw[upd_ne (ne_of_none q hn)];exact q) λc xs q _=>by rw[upd_ne (ne_of_none q hn)];exact q
end
def Rd (H:Hp)(a:Addr)(u:HO):Prop:=H a=some u∨∃o,H a=some (.frz o u)
theorem Rd.ok {P:Program}{w:World}{H:Hp}{h:Heap}{a:Addr}{u:HO}(r:Rd H a u)(x:HOk P w H h):ObjOk P w H h a u:=by
 rcases r with r | ⟨o,r⟩
 .exact x a u r
 .obtain ⟨_,q⟩:=x a _ r
  exact q
def Mut:Option HO->Prop
 |some (.lst _)=>True
 |some (.dK _)=>True
 |some (.dT _)=>True
 |some (.set _ _)=>True
 |some (.ins _ _ _)=>True
 |some (.ext _)=>True
 |_=>False
section
variable {P:Program}{w:World}{H:Hp}{h h':Heap}{x e:Addr}{o':HO}
theorem HOk.write (ok:HOk P w H h)(mu:Mut (H x))(he:e=x∨H e=some (.own x))(k:∀b u,b≠e->h.get? b=some u->h'.get? b=some u)(heo:∃u,h'.get? e=some u)
  (new:ObjOk P w (upd H x o') h' x o'):HOk P w (upd H x o') h':=λb u q=>by
 have nown:∀c y,H c=some (.own y)->c≠x:=λc y r z=>by subst z;rw[r]at mu;exact mu
 have ntup:∀c u,H c=some u->refd u->c≠x:=λc u r i z=>by subst z;rw[r]at mu;rcases i with⟨_,rfl⟩ | ⟨_,_,_,rfl,_⟩<;>exact mu
 by_cases hb:b=x
 .subst hb;rw[upd_same]at q;cases q;exact new
 .rw [upd_ne hb]at q
  by_cases hbe:b=e
  .have q':H b=some (.own x):=by
    rcases he with z |z
    .exact absurd (hbe.trans z) hb
    .rw [hbe];exact z
   rw[q]at q';cases q'
   obtain⟨v,hv⟩:=heo
   exact⟨v,by rw[hbe];exact hv⟩
  .refine (ok b u q).stay (λc v hc r=>k c v ?_ r) (λc r=>by rw[upd_ne (nown c b r)];exact r) λc xs r i=>by rw[upd_ne (ntup c xs r i)];exact r
   rcases hc with rfl |hc
   .exact hbe
   .rintro rfl
    rcases he with z |z
    .exact nown c b hc z
    .rw [hc]at z;cases z;exact hb rfl
end
structure Un (fs ex:List Addr) (H H':Hp) (h h':Heap):Prop where
 keep:∀b o,h.get? b=some o->H b=none->b∉fs->b∉ex->h'.get? b=some o
 slot:∀b o,h.get? b=some o->H b=none->b∈fs->b∉ex->∃sl,h'.get? b=some {o with slots:=sl}
 free:∀b o,h.get? b=some o->H b=none->b∉ex->H' b=none
 there:∀b o,h.get? b=some o->b∉ex->∃o',h'.get? b=some o'
 tups:∀b xs,H b=some (.tup xs)->H' b=some (.tup xs)
 frzs:∀b o u,H b=some (.frz o u)->H' b=some (.frz o u)
 tbls:∀b ps,H b=some (.tbl ps)->∃more,H' b=some (.tbl (ps++more))
section
variable {fs fs' ex ex':List Addr}{H H1 H2:Hp}{h h1 h2 h':Heap}{a x e:Addr}{o:HO}
theorem Un.any (u:Un fs ex H H1 h h1){b:Addr}{ob:Obj}(q:h.get? b=some ob)(n:H b=none)(hx:b∉ex):∃sl,h1.get? b=some {ob with slots:=sl}:=by
 by_cases hb:b∈fs
 .exact u.slot b ob q n hb hx
 .exact ⟨ob.slots,u.keep b ob q n hb hx⟩
theorem Un.kept (k:∀b u,h.get? b=some u->h'.get? b=some u):Un fs ex H H h h':=
 ⟨λb ob q _ _ _=>k b ob q,λb ob q _ _ _=>⟨ob.slots,k b ob q⟩,λ_ _ _ n _=>n,λb ob q _=>⟨ob,k b ob q⟩,λ_ _ q=>q,λ_ _ _ q=>q,λ_ ps q=>⟨#[],by rw[q];simp⟩⟩
theorem Un.refl:Un fs ex H H h h:=Un.kept λ_ _ q=>q
theorem Un.laid (k:∀b u,h.get? b=some u->h'.get? b=some u)(hp:h.objs.size<=a)(hn:H a=none):Un fs ex H (upd H a o) h h' where
 keep:=λb u q _ _ _=>k b u q
 slot:=λb u q _ _ _=>⟨u.slots,k b u q⟩
 free:=λb u q n _=>by rw[upd_ne (ne_of_lt (lt_of_lt_of_le (lt_size q) hp))];exact n
 there:=λb u q _=>⟨u,k b u q⟩
 tups:=λb xs q=>by rw[upd_ne (ne_of_none q hn)];exact q
 frzs:=λb u xs q=>by rw[upd_ne (ne_of_none q hn)];exact q
 tbls:=λb ps q=>⟨#[],by rw[upd_ne (ne_of_none q hn),q];simp⟩
theorem Un.write (mu:Mut (H x))(he:e=x∨H e=some (.own x))(k:∀b u,b≠e->h.get? b=some u->h'.get? b=some u)(heo:∃u,h'.get? e=some u):Un fs ex H (upd H x o) h h':=by
 have hx:∀b,H b=none->b≠x:=λb n z=>by subst z;rw[n]at mu;exact mu
 have hb:∀b,H b=none->b≠e:=λb n z=>by
  subst z
  rcases he with r |r
  .exact hx b n r
  .rw [n]at r;cases r
 have hm:∀b u,H b=some u->¬ Mut (some u)->b≠x:=λb u q nm z=>by subst z;rw[q]at mu;exact nm mu
 refine⟨λb u q n _ _=>k b u (hb b n) q,λb u q n _ _=>⟨u.slots,k b u (hb b n) q⟩,λb u q n _=>by rw[upd_ne (hx b n)];exact n,λb u q _=>?_,
  λb xs q=>by rw[upd_ne (hm b _ q λz=>z)];exact q,λb u xs q=>by rw[upd_ne (hm b _ q λz=>z)];exact q,λb ps q=>⟨#[],by rw[upd_ne (hm b _ q λz=>z),q];simp⟩⟩
 by_cases hbe:b=e
 .subst hbe;exact heo
 .exact ⟨u,k b u hbe q⟩
end
def trk (h:Heap)(H:Hp):List Addr:=(List.range h.objs.size).filter λa=>(H a).isSome
def hidT (h:Heap)(H:Hp):Heap:=PySem.W.hideAll h (trk h H)
theorem hidT_size (h:Heap)(H:Hp):(hidT h H).objs.size=h.objs.size:=PySem.W.hideAll_size _ _
theorem hidT_get {h:Heap}{H:Hp}{b:Addr}{o:Obj}(e:h.get? b=some o)(n:H b=none):(hidT h H).get? b=some o:=
 PySem.W.hideAll_get _ e λhm=>by
  have q:(H b).isSome=true:=(mem_filter.mp hm).2
  rw[n]at q;simp at q
theorem of_hidT {h:Heap}{H:Hp}{b:Addr}{o:Obj}(e:(hidT h H).get? b=some o):h.get? b=some o/\H b=none:=by
 have e':h.get? b=some o:=PySem.W.of_hideAll (trk h H) e
 refine⟨e',?_⟩
 cases q:H b with
 |none=>rfl
 |some x=>
  have hm:b∈trk h H:=mem_filter.mpr ⟨mem_range.mpr (lt_size e'),by simp[q]⟩
  have z:(hidT h H).get? b=none:=PySem.W.hideAll_none (trk h H) hm
  rw[z]at e;cases e
def allNews (g h:Heap)(L:Addr):List (Addr×Obj):=(List.range h.objs.size).filterMap λa=>if a=L∨(g.get? a).isSome=true then none else (h.get? a).map λo=>(a,o)
def rest (g h:Heap)(L d:Addr):List (Addr×Obj):=(allNews g h L).filter λp=>decide (p.1≠d)
structure Mod (K:Frag) (mg:Str->Option Value) (base:Heap):Prop where
 kin:K.In base
 glob:base.Ns mainGlobals mg
 blt:∃mb,base.Ns builtinsNs mb/\∀x:Str,x ≠ "__name__"->mb x=bootBuiltins x
 nolimit:base.NoLimit
structure Cx where
 prog:Program
 w:World
 K:Frag
 mg:Str->Option Value
 base:Heap
 A:Around
 N:List Str
 s₀:Shared
 H₀:Hp
 env:Env
 outer:List Env
 stack:List Env
 ex:List Addr
 fn:Str->Bool
 calm:Bool
 pn:List (Addr×Obj)
 xe:Value->Shared->Prop
def frs (l:List Env):List Addr:=l.filterMap (·.frame)
abbrev Cx.fs (X:Cx):List Addr:=frs X.outer
def Vis (sc:Scope)(x:Str):Prop:=sc.names.lookup x=some .local∨sc.names.lookup x=some .cell∨sc.names.lookup x=some .free
def Loc (sc:Scope)(x:Str):Prop:=sc.names.lookup x=some .local∨sc.names.lookup x=some .cell
def Look (env:Env)(h:Heap)(m:Str->Option Value)(x:Str)(u:Value):Prop:=
 (env.kindOf x=some .local/\m x=some u)∨((env.kindOf x=some .cell∨env.kindOf x=some .free)/\∃c,env.cells.lookup x=some c/\h.IsCell c (some u))
structure Cx.Ok (X:Cx):Prop where
 mod:Mod X.K X.mg X.base
 kind:X.env.scope.kind = .function
 glob:X.env.globals=mainGlobals
 blt:X.env.builtins=builtinsNs
 above:X.s₀.heap.objs.size<=X.env.locals
 inj:∀x y c,X.env.cells.lookup x=some c->X.env.cells.lookup y=some c->x=y
 has:∀x,(X.env.kindOf x=some .cell∨X.env.kindOf x=some .free)->∃c,X.env.cells.lookup x=some c
 cab:∀x c,X.fn x=true->X.env.cells.lookup x=some c->X.s₀.heap.objs.size<=c
 hd:X.calm=true->X.A.handled=none
 frames:X.A.frames=some X.stack
 stk:X.stack=X.outer∨(X.stack=X.env::X.outer/\X.env.frame=some X.env.locals)
 exf:∀b∈X.ex,b≠X.env.locals/\∀x c,X.env.cells.lookup x=some c->c≠b
 bs:∀b o,X.base.get? b=some o->X.s₀.heap.get? b=some o/\X.H₀ b=none
 bsz:X.base.objs.size<=X.s₀.heap.objs.size
 noex:∀b o,X.base.get? b=some o->b∉X.ex
 exfs:∀b∈X.ex,b∉X.fs
 funs:X.s₀.heap.FunFrames X.base X.outer
 frf:∀b∈X.fs,X.H₀ b=none
structure Inv (X:Cx) (pins:List (Addr×Obj)) (O:List (Option V)) (H:Hp) (s:Shared):Prop where
 ok:X.Ok
 os:s.os=X.s₀.os
 bare:AllBare s.gens
 base:Un X.fs X.ex X.H₀ H X.s₀.heap s.heap
 loc:∃m,s.heap.Ns X.env.locals m/\∀(i:Nat) (x:Str) (v:V),X.N[i]?=some x->O[i]?=some (some v)->Vis X.env.scope x->∃u,RelV v u/\Look X.env s.heap m x u
 cell:∀x c,X.env.cells.lookup x=some c->∃v,s.heap.IsCell c v
 free:H X.env.locals=none
 freeC:∀x c,X.env.cells.lookup x=some c->H c=none
 pin:∀p∈X.pn++pins,s.heap.get? p.1=some p.2/\H p.1=none/\p.1≠X.env.locals/\p.1∉X.fs/\∀v,p.2.data≠.cell v
 hok:HOk X.prog X.w H s.heap
 len:O.length=X.N.length
section
variable {X:Cx}{pins:List (Addr×Obj)}{O:List (Option V)}{H H':Hp}{s:Shared}{h':Heap}
theorem Cx.Ok.nofr (ok:X.Ok){b:Addr}{o:Obj}(e:X.base.get? b=some o):b∉X.fs:=λhb=>by
 have:=(ok.funs.mem hb).1
 rw[e]at this;cases this
theorem Inv.bs (I:Inv X pins O H s):∀b o,X.base.get? b=some o->s.heap.get? b=some o/\H b=none:=λb o e=>
 ⟨I.base.keep b o (I.ok.bs b o e).1 (I.ok.bs b o e).2 (I.ok.nofr e) (I.ok.noex b o e),I.base.free b o (I.ok.bs b o e).1 (I.ok.bs b o e).2 (I.ok.noex b o e)⟩
theorem Inv.bk (I:Inv X pins O H s):∀b o,X.base.get? b=some o->s.heap.get? b=some o:=λb o e=>(I.bs b o e).1
theorem Inv.mod (I:Inv X pins O H s):Mod X.K X.mg X.base:=I.ok.mod
theorem Inv.kIn (I:Inv X pins O H s):X.K.In s.heap:=I.ok.mod.kin.keeps I.bk
theorem Inv.lt (I:Inv X pins O H s):X.env.locals<s.heap.objs.size:=let⟨_,hn,_⟩:=I.loc;hn.lt
theorem Inv.sz (I:Inv X pins O H s):X.s₀.heap.objs.size<=s.heap.objs.size:=Nat.le_trans I.ok.above (Nat.le_of_lt I.lt)
theorem Inv.nofs (I:Inv X pins O H s){a:Addr}(h:s.heap.objs.size<=a):a∉X.fs:=λhb=>by
 obtain⟨_,o,ho,_⟩:=I.ok.funs.mem hb
 exact absurd (lt_of_lt_of_le (lt_size ho) (Nat.le_trans I.sz h)) (lt_irrefl _)
theorem Inv.cne (I:Inv X pins O H s):∀x c,X.env.cells.lookup x=some c->c≠X.env.locals:=λx c e z=>by
 obtain⟨v,o,ho,hd⟩:=I.cell x c e
 obtain⟨m,⟨o',es,ep,ho',hd',_⟩,_⟩:=I.loc
 rw[z,ho']at ho;cases ho;rw[hd']at hd;cases hd
theorem Inv.funs (I:Inv X pins O H s):s.heap.FunFrames X.base X.outer:=by
 have all:∀(l:List Env),(∀b∈frs l,b∈X.fs)->X.s₀.heap.FunFrames X.base l->s.heap.FunFrames X.base l:=by
  intro l
  induction l with
  |nil=>intro _ _;trivial
  |cons env r ih=>
   intro hs hl
   obtain⟨hk,⟨L,o,hf,hn,ho,hd⟩,hr⟩:=hl
   have hL:L∈X.fs:=hs L (by unfold frs;rw[List.filterMap_cons,hf];exact mem_cons_self)
   obtain⟨sl,e⟩:=I.base.slot L o ho (I.ok.frf L hL) hL λz=>I.ok.exfs L z hL
   exact⟨hk,⟨L,_,hf,hn,e,hd⟩,ih (λb hb=>hs b (by unfold frs;rw[List.filterMap_cons,hf];exact mem_cons_of_mem _ hb)) hr⟩
 exact all X.outer (λ_ hb=>hb) I.ok.funs
theorem Inv.stack (I:Inv X pins O H s):s.heap.FunFrames X.base X.stack:=by
 rcases I.ok.stk with e | ⟨e,hf⟩
 .rw [e];exact I.funs
 .rw [e]
  obtain⟨m,hn,_⟩:=I.loc
  refine .cons (by rw[I.ok.kind];decide) hf hn ?_ I.funs
  exact Heap.get?_none_of_le (Nat.le_trans I.ok.bsz I.ok.above)
theorem Inv.stkSub (I:Inv X pins O H s):∀b∈frs X.stack,b∈X.env.locals::X.fs:=λb hb=>by
 rcases I.ok.stk with e | ⟨e,hf⟩
 .rw [e]at hb;exact mem_cons_of_mem _ hb
 .rw [e]at hb
  unfold frs at hb
  rw[List.filterMap_cons,hf]at hb
  exact hb
theorem Inv.stkFree (I:Inv X pins O H s):∀b∈frs X.stack,H b=none:=λb hb=>by
 rcases mem_cons.mp (I.stkSub b hb) with e |hb
 .rw [e];exact I.free
 .obtain ⟨_,o,ho,_⟩:=I.ok.funs.mem hb
  exact I.base.free b o ho (I.ok.frf b hb) λz=>I.ok.exfs b z hb
theorem Inv.step {g':Array GenState}{t':Nat}{d':Drawn}{ch:List Addr}(I:Inv X pins O H s)
  (hch:∀b∈ch,(b∈X.ex∨X.s₀.heap.objs.size<=b)/\b≠X.env.locals/\(∀x c,X.env.cells.lookup x=some c->c≠b)/\∀p∈X.pn++pins,p.1≠b)
  (keep:∀b o,b≠X.env.locals->b∉X.fs->b∉ch->s.heap.get? b=some o->H b=none->h'.get? b=some o)
  (slot:∀b o,b≠X.env.locals->b∈X.fs->b∉ch->s.heap.get? b=some o->H b=none->∃sl,h'.get? b=some {o with slots:=sl}) (free:∀b o,b∉ch->s.heap.get? b=some o->H b=none->H' b=none)
  (there:∀b o,b∉ch->s.heap.get? b=some o->∃o',h'.get? b=some o')
  (tups:∀b xs,H b=some (.tup xs)->H' b=some (.tup xs)) (frzs:∀b o u,H b=some (.frz o u)->H' b=some (.frz o u)) (tbls:∀b ps,H b=some (.tbl ps)->∃more,H' b=some (.tbl (ps++more)))
  (ns:∀m,s.heap.Ns X.env.locals m->h'.Ns X.env.locals m) (hok:HOk X.prog X.w H' h') (hg:AllBare g'):
  Inv X pins O H' {s with heap:=h',gens:=g',drawn:=d',toks:=t'}:=by
 have neL:∀b o,X.s₀.heap.get? b=some o->b≠X.env.locals:=λb o e=>ne_of_lt (lt_of_lt_of_le (lt_size e) I.ok.above)
 have neC:∀b o,X.s₀.heap.get? b=some o->b∉X.ex->b∉ch:=λb o e hx hb=>by
  rcases (hch b hb).1 with z |z
  .exact hx z
  .exact absurd (lt_of_lt_of_le (lt_size e) z) (lt_irrefl _)
 have cellK:∀x c,X.env.cells.lookup x=some c->∀v,s.heap.IsCell c v->h'.IsCell c v:=λx c e v ⟨o,ho,hd⟩=>by
  have nch:c∉ch:=λz=>(hch c z).2.2.1 x c e rfl
  by_cases hc:c∈X.fs
  .obtain ⟨sl,q⟩:=slot c o (I.cne x c e) hc nch ho (I.freeC x c e)
   exact⟨_,q,hd⟩
  .exact ⟨o,keep c o (I.cne x c e) hc nch ho (I.freeC x c e),hd⟩
 refine⟨I.ok,I.os,hg,⟨λb o e n hb hx=>?_,λb o e n hb hx=>?_,λb o e n hx=>?_,λb o e hx=>?_,λb xs e=>tups b xs (I.base.tups b xs e),λb o xs e=>frzs b o xs (I.base.frzs b o xs e),λb ps e=>?_⟩,?_,λx c e=>?_,?_,λx c e=>?_,λp hp=>?_,hok,I.len⟩
 .exact keep b o (neL b o e) hb (neC b o e hx) (I.base.keep b o e n hb hx) (I.base.free b o e n hx)
 .obtain ⟨sl,e1⟩:=I.base.slot b o e n hb hx
  obtain⟨sl',e2⟩:=slot b _ (neL b o e) hb (neC b o e hx) e1 (I.base.free b o e n hx)
  exact⟨sl',e2⟩
 .obtain ⟨o',e1⟩:=I.base.there b o e hx
  exact free b o' (neC b o e hx) e1 (I.base.free b o e n hx)
 .obtain ⟨o',e1⟩:=I.base.there b o e hx
  exact there b o' (neC b o e hx) e1
 .obtain ⟨m1,e1⟩:=I.base.tbls b ps e
  obtain⟨m2,e2⟩:=tbls b _ e1
  exact⟨m1++m2,by rw[e2,Array.append_assoc]⟩
 .obtain ⟨m,hn,hl⟩:=I.loc
  refine⟨m,ns m hn,λi x v e1 e2 e3=>?_⟩
  obtain⟨u,r,l⟩:=hl i x v e1 e2 e3
  refine⟨u,r,?_⟩
  rcases l with l | ⟨k,c,e,z⟩
  .exact .inl l
  .exact .inr ⟨k,c,e,cellK x c e _ z⟩
 .obtain ⟨v,z⟩:=I.cell x c e
  exact⟨v,cellK x c e v z⟩
 .obtain ⟨m,⟨o,_,_,ho,_⟩,_⟩:=I.loc
  exact free _ o (λz=>(hch _ z).2.1 rfl) ho I.free
 .obtain ⟨v,o,ho,hd⟩:=I.cell x c e
  exact free c o (λz=>(hch c z).2.2.1 x c e rfl) ho (I.freeC x c e)
 .obtain ⟨e,n,ne,nf,d⟩:=I.pin p hp
  have nch:p.1∉ch:=λz=>(hch p.1 z).2.2.2 p hp rfl
  exact⟨keep p.1 p.2 ne nf nch e n,free p.1 p.2 nch e n,ne,nf,d⟩
theorem Inv.un {t':Nat}(I:Inv X pins O H s)(u:Un X.fs [] H H' s.heap h')(hok:HOk X.prog X.w H' h'):Inv X pins O H' {s with heap:=h',toks:=t'}:=by
 obtain⟨m,⟨o,es,ep,ho,r⟩,_⟩:=id I.loc
 obtain⟨sl,hL⟩:=u.any ho I.free (by simp)
 exact I.step (g':=s.gens) (d':=s.drawn) (ch:=[]) (λ_ z=>nomatch z) (λb o _ hb _ e n=>u.keep b o e n hb (by simp)) (λb o _ hb _ e n=>u.slot b o e n hb (by simp)) (λb o _ e n=>u.free b o e n (by simp)) (λb o _ e=>u.there b o e (by simp)) u.tups u.frzs u.tbls (λm' hm=>by
  obtain⟨o',es',ep',ho',r'⟩:=hm
  rw[ho]at ho';cases ho'
  exact⟨_,es',ep',hL,r'⟩) hok I.bare
theorem Inv.call {g':Array GenState}{t':Nat}{d':Drawn}{ch:List Addr}(I:Inv X pins O H s)(u:Un (frs X.stack) ch H H' s.heap h')(hok:HOk X.prog X.w H' h')(hg:AllBare g')
  (hch:∀b∈ch,(b∈X.ex∨X.s₀.heap.objs.size<=b)/\b≠X.env.locals/\(∀x c,X.env.cells.lookup x=some c->c≠b)/\∀p∈X.pn++pins,p.1≠b):
  Inv X pins O H' {s with heap:=h',gens:=g',drawn:=d',toks:=t'}:=by
 obtain⟨m,⟨o,es,ep,ho,r⟩,_⟩:=id I.loc
 obtain⟨sl,hL⟩:=u.any ho I.free λz=>(hch _ z).2.1 rfl
 exact I.step hch (λb o hL hb hc e n=>u.keep b o e n (λz=>(mem_cons.mp (I.stkSub b z)).elim hL hb) hc) (λb o _ _ hc e n=>u.any e n hc) (λb o hc e n=>u.free b o e n hc) (λb o hc e=>u.there b o e hc) u.tups u.frzs u.tbls (λm' hm=>by
  obtain⟨o',es',ep',ho',r'⟩:=hm
  rw[ho]at ho';cases ho'
  exact⟨_,es',ep',hL,r'⟩) hok hg
theorem Inv.turned {t':Nat}{it:Addr}(I:Inv X pins O H s)(k:∀b o,b≠it->s.heap.get? b=some o->h'.get? b=some o)(hn:H it=none)(hL:it≠X.env.locals)
  (h1:it∈X.ex∨X.s₀.heap.objs.size<=it) (h2:∀x c,X.env.cells.lookup x=some c->c≠it) (h3:∀p∈X.pn++pins,p.1≠it):Inv X pins O H {s with heap:=h',toks:=t'}:=by
 have nit:∀b u,H b=some u->b≠it:=λb u e z=>by rw[z,hn]at e;cases e
 refine I.step (g':=s.gens) (d':=s.drawn) (ch:=[it]) (λb hb=>?_) (λb o _ _ hc e _=>k b o (λz=>hc (by simp[z])) e) (λb o _ _ hc e _=>⟨o.slots,k b o (λz=>hc (by simp[z])) e⟩) (λ_ _ _ _ n=>n)
  (λb o hc e=>⟨o,k b o (λz=>hc (by simp[z])) e⟩) (λ_ _ e=>e) (λ_ _ _ e=>e) (λb ps e=>⟨#[],by rw[e];simp⟩) (λm hm=>?_) (λb u e=>?_) I.bare
 .have e:b=it:=by simpa using hb
  subst e
  exact⟨h1,hL,h2,h3⟩
 .obtain ⟨o,es,ep,ho,r⟩:=hm
  exact⟨o,es,ep,k _ o (Ne.symm hL) ho,r⟩
 .refine (I.hok b u e).stay (λc v hc q=>k c v ?_ q) (λ_ q=>q) λ_ _ q _=>q
  rcases hc with z |z
  .rw [z];exact nit b u e
  .exact nit c _ z
theorem Inv.tok (I:Inv X pins O H s)(t:Nat):Inv X pins O H {s with toks:=t}:=I.un (h':=s.heap) (t':=t) Un.refl I.hok
theorem Inv.kept {t':Nat}(I:Inv X pins O H s)(k:∀b u,s.heap.get? b=some u->h'.get? b=some u):Inv X pins O H {s with heap:=h',toks:=t'}:=I.un (Un.kept k) (I.hok.kept k)
theorem Inv.laid {a:Addr}{o:HO}{t':Nat}(I:Inv X pins O H s)(k:∀b u,s.heap.get? b=some u->h'.get? b=some u)(hp:s.heap.objs.size<=a)(new:ObjOk X.prog X.w (upd H a o) h' a o):
  Inv X pins O (upd H a o) {s with heap:=h',toks:=t'}:=I.un (Un.laid k hp (I.hok.fresh hp)) (I.hok.laid k hp new)
theorem Inv.write {x e:Addr}{o:HO}{t':Nat}(I:Inv X pins O H s)(mu:Mut (H x))(he:e=x∨H e=some (.own x))(k:∀b u,b≠e->s.heap.get? b=some u->h'.get? b=some u)(heo:∃u,h'.get? e=some u)
  (new:ObjOk X.prog X.w (upd H x o) h' x o):Inv X pins O (upd H x o) {s with heap:=h',toks:=t'}:=I.un (Un.write mu he k heo) (I.hok.write mu he k heo new)
theorem Inv.pins_of {pins':List (Addr×Obj)}(I:Inv X pins O H s)(h:∀p∈pins',s.heap.get? p.1=some p.2/\H p.1=none/\p.1≠X.env.locals/\p.1∉X.fs/\∀v,p.2.data≠.cell v):Inv X pins' O H s:=
 ⟨I.ok,I.os,I.bare,I.base,I.loc,I.cell,I.free,I.freeC,λp hp=>(mem_append.mp hp).elim (λz=>I.pin p (mem_append_left _ z)) (h p),I.hok,I.len⟩
theorem nodup_ix {N:List Str}(hN:N.Nodup){i j:Nat}{x:Str}(a:N[i]?=some x)(b:N[j]?=some x):i=j:=by
 obtain⟨h1,e1⟩:=List.getElem?_eq_some_iff.mp a
 obtain⟨h2,e2⟩:=List.getElem?_eq_some_iff.mp b
 exact (List.getElem_inj hN).mp (e1.trans e2.symm)
theorem store_ok2 {δ:Model}{A:Around}{E:Value->Shared->Prop}{i:Nat}{x:Str}{v:V}{u:Value}{Q:Unit->Shared->Prop}(I:Inv X pins O H s)(hN:X.N.Nodup)(hi:X.N[i]?=some x)(hx:Loc X.env.scope x)(r:RelV v u)
  (h:∀s',Inv X pins (O.set i (some v)) H s'->(∃a,Heap.SameBut a s.heap s'.heap/\(a=X.env.locals∨X.env.cells.lookup x=some a))->Q () s') (hf:X.fn x=true∨X.env.scope.names.lookup x=some .local:=by first |exact .inl rfl |exact .inr rfl |assumption):wpAny δ A (storeName X.env x u) Q E s:=by
 obtain⟨m,hn,hl⟩:=id I.loc
 have hcls:(X.env.scope.kind == .class || (X.env.scope.kind == .module && X.env.locals != X.env.globals))=false:=by rw[I.ok.kind];rfl
 have hiσ:i<O.length:=by rw[I.len];exact (List.getElem?_eq_some_iff.mp hi).1
 have cne:=I.cne
 have tracked:∀{a:Addr} {h':Heap},(∃o,s.heap.get? a=some o/\H a=none)->Heap.SameBut a s.heap h'->HOk X.prog X.w H h':=λ{a h'} ha hs b ob e=>by
  obtain⟨_,_,hfree⟩:=ha
  refine (I.hok b ob e).stay (λc w' hc q=>(hs.2 c ?_).trans q) (λ_ q=>q) λ_ _ q _=>q
  rintro rfl
  rcases hc with rfl |hc
  .rw [hfree]at e;cases e
  .rw [hfree]at hc;cases hc
 rcases hx with hk |hk
 .refine wpAny_storeName_local hk hn (λh' hn' hs=>?_) hcls
  obtain⟨oL,_,_,hoL,_⟩:=id hn
  refine h _ ⟨I.ok,I.os,I.bare,⟨λb o e n hb hx=>?_,λb o e n hb hx=>?_,I.base.free,λb o e hx=>?_,I.base.tups,I.base.frzs,I.base.tbls⟩,⟨_,hn',λj y v' e1 e2 e3=>?_⟩,λy c e=>?_,I.free,I.freeC,λp hp=>?_,tracked ⟨oL,hoL,I.free⟩ hs,by simpa using I.len⟩ ⟨_,hs,.inl rfl⟩
  .exact (hs.2 b (ne_of_lt (lt_of_lt_of_le (lt_size e) I.ok.above))).trans (I.base.keep b o e n hb hx)
  .obtain ⟨sl,e1⟩:=I.base.slot b o e n hb hx
   exact⟨sl,(hs.2 b (ne_of_lt (lt_of_lt_of_le (lt_size e) I.ok.above))).trans e1⟩
  .obtain ⟨o',e1⟩:=I.base.there b o e hx
   exact⟨o',(hs.2 b (ne_of_lt (lt_of_lt_of_le (lt_size e) I.ok.above))).trans e1⟩
  .by_cases hj:j=i
   .subst hj
    rw[hi]at e1;cases e1
    rw[getElem?_set_self hiσ]at e2
    cases e2
    exact⟨u,r,.inl ⟨hk,by simp⟩⟩
   .rw [getElem?_set_ne (Ne.symm hj)]at e2
    obtain⟨u',r',q⟩:=hl j y v' e1 e2 e3
    refine⟨u',r',?_⟩
    rcases q with⟨k,e⟩ | ⟨k,c,e,z⟩
    .refine .inl ⟨k,?_⟩
     have:y≠x:=λe=>hj (nodup_ix hN e1 (e▸hi))
     simp[this,e]
    .exact .inr ⟨k,c,e,z.sameBut hs (cne y c e)⟩
  .obtain ⟨w',z⟩:=I.cell y c e
   exact⟨w',z.sameBut hs (cne y c e)⟩
  .obtain ⟨e,n,ne,nf,d⟩:=I.pin p hp
   exact⟨(hs.2 p.1 ne).trans e,n,ne,nf,d⟩
 .have hfn:X.fn x=true:=by
   rcases hf with z |z
   .exact z
   .rw [z]at hk;cases hk
  obtain⟨c,hc⟩:=I.ok.has x (.inl hk)
  obtain⟨w',z⟩:=I.cell x c hc
  refine wpAny_storeName_cell I.ok.kind hk hc z (λh' hc' hs=>?_)
  obtain⟨oc,hoc,hocd⟩:=id z
  refine h {s with heap:=h'} ⟨I.ok,I.os,I.bare,⟨λb o e n hb hx=>?_,λb o e n hb hx=>?_,I.base.free,λb o e hx=>?_,I.base.tups,I.base.frzs,I.base.tbls⟩,⟨m,hn.sameBut hs (Ne.symm (cne x c hc)),λj y v' e1 e2 e3=>?_⟩,λy c' e=>?_,I.free,I.freeC,λp hp=>?_,tracked ⟨oc,hoc,I.freeC x c hc⟩ hs,by simpa using I.len⟩ ⟨c,hs,.inr hc⟩
  .exact (hs.2 b (ne_of_lt (lt_of_lt_of_le (lt_size e) (I.ok.cab x c hfn hc)))).trans (I.base.keep b o e n hb hx)
  .obtain ⟨sl,e1⟩:=I.base.slot b o e n hb hx
   exact⟨sl,(hs.2 b (ne_of_lt (lt_of_lt_of_le (lt_size e) (I.ok.cab x c hfn hc)))).trans e1⟩
  .obtain ⟨o',e1⟩:=I.base.there b o e hx
   exact⟨o',(hs.2 b (ne_of_lt (lt_of_lt_of_le (lt_size e) (I.ok.cab x c hfn hc)))).trans e1⟩
  .by_cases hj:j=i
   .subst hj
    rw[hi]at e1;cases e1
    rw[getElem?_set_self hiσ]at e2
    cases e2
    exact⟨u,r,.inr ⟨.inl hk,c,hc,hc'⟩⟩
   .rw [getElem?_set_ne (Ne.symm hj)]at e2
    obtain⟨u',r',q⟩:=hl j y v' e1 e2 e3
    refine⟨u',r',?_⟩
    rcases q with q | ⟨k,c',e,z'⟩
    .exact .inl q
    .refine .inr ⟨k,c',e,z'.sameBut hs ?_⟩
     rintro rfl
     exact hj (nodup_ix hN e1 (I.ok.inj _ _ _ e hc▸hi))
  .by_cases hcc:c'=c
   .subst hcc;exact⟨_,hc'⟩
   .obtain ⟨w2,z2⟩:=I.cell y c' e
    exact⟨w2,z2.sameBut hs hcc⟩
  .obtain ⟨e,n,ne,nf,d⟩:=I.pin p hp
   refine⟨(hs.2 p.1 ?_).trans e,n,ne,nf,d⟩
   intro q
   rw[q,hoc]at e
   have q':oc=p.2:=Option.some.inj e
   exact d w' (by rw[<- q'];exact hocd)
theorem store_ok {δ:Model}{A:Around}{E:Value->Shared->Prop}{i:Nat}{x:Str}{v:V}{u:Value}{Q:Unit->Shared->Prop}(I:Inv X pins O H s)(hN:X.N.Nodup)(hi:X.N[i]?=some x)(hx:Loc X.env.scope x)(r:RelV v u)
  (h:∀s',Inv X pins (O.set i (some v)) H s'->Q () s') (hf:X.fn x=true∨X.env.scope.names.lookup x=some .local:=by first |exact .inl rfl |exact .inr rfl |assumption):wpAny δ A (storeName X.env x u) Q E s:=
 store_ok2 I hN hi hx r (λs' I' _=>h s' I') hf
theorem Inv.call' {s':Shared}{ch:List Addr}(I:Inv X pins O H s)(ho:s'.os=s.os)(u:Un (frs X.stack) ch H H' s.heap s'.heap)(hok:HOk X.prog X.w H' s'.heap)(hg:AllBare s'.gens)
  (hch:∀b∈ch,(b∈X.ex∨X.s₀.heap.objs.size<=b)/\b≠X.env.locals/\(∀x c,X.env.cells.lookup x=some c->c≠b)/\∀p∈X.pn++pins,p.1≠b):Inv X pins O H' s':=by
 obtain⟨h',g',d',t',o'⟩:=s'
 have e:o'=s.os:=ho
 subst e
 exact I.call (g':=g') (t':=t') (d':=d') u hok hg hch
end
abbrev XK:=Value->Option Addr->Hp->Prop
abbrev St:=List (Option V)
abbrev VK:=V->Hp->Prop
abbrev TE:=St->Hp->VK->Prop
abbrev TT:=St->Hp->(Bool->Hp->Prop)->Prop
abbrev TA:=St->Hp->(List V->Hp->Prop)->Prop
structure Ends where
 nx:St->Hp->Prop
 rt:VK
 bk:St->Hp->Prop:=λ_ _=>False
 ct:St->Hp->Prop:=λ_ _=>False
abbrev TS:=Ends->St->Hp->Prop
def EP (X:Cx)(pins:List (Addr×Obj))(O:St)(Q:VK)(u:Value)(s':Shared):Prop:=∃v H',Inv X pins O H' s'/\RelV v u/\Q v H'
def TP (X:Cx)(pins:List (Addr×Obj))(O:St)(Q:Bool->Hp->Prop)(b:Bool)(s':Shared):Prop:=∃H',Inv X pins O H' s'/\Q b H'
def AP (X:Cx)(pins:List (Addr×Obj))(O:St)(Q:List V->Hp->Prop)(us:List Value)(s':Shared):Prop:=∃vs H',Inv X pins O H' s'/\Vals vs us/\Q vs H'
def SP (X:Cx)(pins:List (Addr×Obj))(D:Ends)(f:Flow)(s':Shared):Prop:=
 match f with
 | .next=>∃O' H',Inv X pins O' H' s'/\D.nx O' H'
 | .brk=>∃O' H',Inv X pins O' H' s'/\D.bk O' H'
 | .cont=>∃O' H',Inv X pins O' H' s'/\D.ct O' H'
 | .ret u=>∃v O' H',Inv X pins O' H' s'/\RelV v u/\D.rt v H'
def PE (X:Cx)(e:Expr)(t:TE):Prop:=
 ∀(pins:List (Addr×Obj)) (s:Shared) (O:St) (H:Hp) (Q:VK),Inv X pins O H s->t O H Q->wpAny (model X.prog X.w) X.A (eval e X.env) (EP X pins O Q) X.xe s
def PT (X:Cx)(e:Expr)(t:TT):Prop:=
 ∀(pins:List (Addr×Obj)) (s:Shared) (O:St) (H:Hp) (Q:Bool->Hp->Prop),Inv X pins O H s->t O H Q->wpAny (model X.prog X.w) X.A (isTrue e X.env (eval e X.env)) (TP X pins O Q) X.xe s
def PW (X:Cx)(e:Expr)(t:TT):Prop:=
 ∀(whole:Sem Value) (pins:List (Addr×Obj)) (s:Shared) (O:St) (H:Hp) (Q:Bool->Hp->Prop),Inv X pins O H s->t O H Q->wpAny (model X.prog X.w) X.A (isTrue e X.env whole) (TP X pins O Q) X.xe s
theorem PW.pt {X:Cx}{e:Expr}{t:TT}(h:PW X e t):PT X e t:=h _
def PA (X:Cx)(es:List Expr)(t:TA):Prop:=
 ∀(pos:Pos) (pins:List (Addr×Obj)) (s:Shared) (O:St) (H:Hp) (Q:List V->Hp->Prop),Inv X pins O H s->t O H Q->wpAny (model X.prog X.w) X.A (spliced (backTo pos (starEach es X.env))) (AP X pins O Q) X.xe s
def PS (X:Cx)(st:Stmt)(t:TS):Prop:=
 ∀(pins:List (Addr×Obj)) (s:Shared) (O:St) (H:Hp) (D:Ends),Inv X pins O H s->t D O H->wpAny (model X.prog X.w) X.A (exec st X.env) (SP X pins D) X.xe s
def PSs (X:Cx)(st:List Stmt)(t:TS):Prop:=
 ∀(pins:List (Addr×Obj)) (s:Shared) (O:St) (H:Hp) (D:Ends),Inv X pins O H s->t D O H->wpAny (model X.prog X.w) X.A (execs st X.env) (SP X pins D) X.xe s
theorem thn {α:Type}{t:Sem α}{Q Q':α->Shared->Prop}{δ:Model}{A:Around}{E:Value->Shared->Prop}{s:Shared}(h:wpAny δ A t Q E s)(hQ:∀a s,Q a s->Q' a s):wpAny δ A t Q' E s:=wpAny_mono h hQ λ_ _ x=>x
section
variable {X:Cx}
def tVar (i:Nat):TE:=λO H Q=>∃v,O[i]?=some (some v)/\Q v H
def tC (v:V):TE:=λ_ H Q=>Q v H
theorem pe_var {i:Nat}{x:Str}{pos:Pos}(hN:X.N[i]?=some x)(hv:Vis X.env.scope x)(hd:(x==("__debug__":Str))=false:=by decide)(hcd:(x==("__classdict__":Str))=false:=by decide):PE X (.Name x pos) (tVar i):=by
 intro pins s O H Q I h
 obtain⟨v,e,h⟩:=h
 obtain⟨m,hn,hl⟩:=I.loc
 obtain⟨u,r,l⟩:=hl i x v hN e hv
 have fin:EP X pins O Q u s:=⟨v,H,I,r,h⟩
 rcases l with⟨hk,hm⟩ | ⟨hk,c,hc,hcell⟩
 .exact wpAny_Name (wpAny_loadName_local I.ok.kind hk hn hm fin) hd
 .rcases hk with hk |hk
  .exact wpAny_Name (wpAny_loadName_cell I.ok.kind hk hc hcell fin) hd
  .exact wpAny_Name (wpAny_loadName_free I.ok.kind hk hc hcell fin hcd) hd
theorem pe_int {i j pos}:PE X (.Constant (.int i) j pos) (tC (.int i)):=λ_ _ _ H _ I h=>wpAny_Constant_int ⟨.int i,H,I.tok _,⟨_,rfl⟩,h⟩
theorem pe_bl {b j pos}:PE X (.Constant (.bool b) j pos) (tC (.bl b)):=λ_ _ _ H _ I h=>Constant_bool ⟨.bl b,H,I,rfl,h⟩
theorem pe_non {j pos}:PE X (.Constant .none j pos) (tC .non):=λ_ _ _ H _ I h=>Constant_none ⟨.non,H,I,rfl,h⟩
def Gl (X:Cx)(x:Str):Prop:=X.env.kindOf x=some .globalImplicit
theorem ld_glob {E:Value->Shared->Prop}{pins:List (Addr×Obj)}{s:Shared}{O:St}{H:Hp}{x:Str}{u:Value}{pos:Pos}{Q:Value->Shared->Prop}(I:Inv X pins O H s)(hg:Gl X x)(hm:X.mg x=some u)(h:Q u s)
  (hd:(x==("__debug__":Str))=false:=by decide):wpAny (model X.prog X.w) X.A (eval (.Name x pos) X.env) Q E s:=
 Calls.Name_function_global I.ok.kind hg (Calls.loadGlobal_global (by rw[I.ok.glob];exact I.mod.glob.keeps I.bk) hm h) hd
theorem ld_blt {E:Value->Shared->Prop}{pins:List (Addr×Obj)}{s:Shared}{O:St}{H:Hp}{x:Str}{u:Value}{pos:Pos}{Q:Value->Shared->Prop}(I:Inv X pins O H s)(hg:Gl X x)(hm:X.mg x=none)(hv:bootBuiltins x=some u)(h:Q u s)
  (hn:x ≠ "__name__":=by decide) (hd:(x==("__debug__":Str))=false:=by decide):wpAny (model X.prog X.w) X.A (eval (.Name x pos) X.env) Q E s:=by
 obtain⟨mb,h1,h2⟩:=I.mod.blt
 exact Calls.Name_function_global I.ok.kind hg (Calls.loadGlobal_builtin (by rw[I.ok.glob];exact I.mod.glob.keeps I.bk) hm (by rw[I.ok.blt];exact h1.keeps I.bk) ((h2 x hn).trans hv) h) hd
theorem pe_glob {x:Str}{v:V}{u:Value}{pos:Pos}(hg:Gl X x)(hm:X.mg x=some u)(r:RelV v u)(hd:(x==("__debug__":Str))=false:=by decide):PE X (.Name x pos) (tC v):=
 λ_ _ _ H _ I h=>ld_glob I hg hm ⟨v,H,I,r,h⟩ hd
theorem pe_bltn {x:Str}{v:V}{u:Value}{pos:Pos}(hg:Gl X x)(hm:X.mg x=none)(hv:bootBuiltins x=some u)(r:RelV v u)(hn:x ≠ "__name__":=by decide)(hd:(x==("__debug__":Str))=false:=by decide):PE X (.Name x pos) (tC v):=
 λ_ _ _ H _ I h=>ld_blt I hg hm hv ⟨v,H,I,r,h⟩ hn hd
variable {a b:Expr}{ta tb:TE}{pos:Pos}
def PC (X:Cx)(op:CmpOp)(a b:Expr)(t:TE):Prop:=
 ∀(pins:List (Addr×Obj)) (s:Shared) (O:St) (H:Hp) (Q:VK),Inv X pins O H s->t O H Q->
  wpAny (model X.prog X.w) X.A (eval a X.env) (λv s₁=>wpAny (model X.prog X.w) X.A (eval b X.env) (λu s₂=>wpAny (model X.prog X.w) X.A (compareOp op v u) (EP X pins O Q) X.xe s₂) X.xe s₁) X.xe s
theorem nobehind (b:Expr){op:CmpOp}(h:op≠.In)(h2:op≠.NotIn):behindInMarks op b=false:=by
 have e1:(op==CmpOp.In)=false:=by cases op<;>first |rfl |exact absurd rfl h
 have e2:(op==CmpOp.NotIn)=false:=by cases op<;>first |rfl |exact absurd rfl h2
 cases b<;>simp[behindInMarks,e1,e2]
def tB (t:TE):TT:=λO H Q=>t O H λx H1=>∃c,x = .bl c/\Q c H1
theorem pt_cmp {op:CmpOp}{t:TE}(h:PC X op a b t)(h1:behindInMarks op b=false:=by first |exact nobehind _ (by decide) (by decide) |rfl):PT X (.Compare a [op] [b] pos) (tB t):=by
 intro pins s O H Q I hw
 refine wpAny_isTrue_Compare1 (thn (h pins s O H _ I hw) λv s1 h1=>thn h1 λu s2 h2=>thn h2 λc s3 ⟨x,H1,I1,r1,q1⟩=>?_) h1
 obtain⟨d,rfl,q⟩:=q1
 cases r1
 exact wpAny_truthy_bool ⟨H1,I1,q⟩
theorem pt_val {e:Expr}{t:TE}(h:PE X e t)(he:∀whole,isTrue e X.env whole=(do let v <- whole;standAt e.pos;holding [v] (truthy v)):=by intro _;rfl):PT X e (tB t):=by
 intro pins s O H Q I hw
 refine isTrue_plain (thn (h pins s O H _ I hw) λv s1 ⟨x,H1,I1,r1,q1⟩=>?_) (he _)
 obtain⟨d,rfl,q⟩:=q1
 cases r1
 exact wpAny_truthy_bool ⟨H1,I1,q⟩
variable {tA tB':TT}{rest:List Expr}
def tAnd (t u:TT):TT:=λO H Q=>t O H λc H1=>if c=true then u O H1 Q else Q false H1
def tOr (t u:TT):TT:=λO H Q=>t O H λc H1=>if c=true then Q true H1 else u O H1 Q
def tNot (t:TT):TT:=λO H Q=>t O H λc H1=>Q (!c) H1
theorem pw_and1 (ha:PT X a tA):PW X (.BoolOp .And [a] pos) tA:=by
 intro wh pins s O H Q I h
 refine isTrue_and (thn (ha pins s O H Q I h) λc s1 e=>?_)
 cases c with
 |true=>exact isTrue_and_nil e
 |false=>exact e
theorem pw_or1 (ha:PT X a tA):PW X (.BoolOp .Or [a] pos) tA:=by
 intro wh pins s O H Q I h
 refine isTrue_or (thn (ha pins s O H Q I h) λc s1 e=>?_)
 cases c with
 |false=>exact isTrue_or_nil e
 |true=>exact e
theorem pw_and (ha:PT X a tA)(hb:PW X (.BoolOp .And (b::rest) pos) tB'):PW X (.BoolOp .And (a::b::rest) pos) (tAnd tA tB'):=by
 intro wh pins s O H Q I h
 refine isTrue_and (thn (ha pins s O H _ I h) λc s1 ⟨H1,I1,q1⟩=>?_)
 cases c with
 |true=>exact hb wh pins s1 O H1 Q I1 q1
 |false=>exact⟨H1,I1,q1⟩
theorem pw_or (ha:PT X a tA)(hb:PW X (.BoolOp .Or (b::rest) pos) tB'):PW X (.BoolOp .Or (a::b::rest) pos) (tOr tA tB'):=by
 intro wh pins s O H Q I h
 refine isTrue_or (thn (ha pins s O H _ I h) λc s1 ⟨H1,I1,q1⟩=>?_)
 cases c with
 |true=>exact⟨H1,I1,q1⟩
 |false=>exact hb wh pins s1 O H1 Q I1 q1
theorem pt_not (ha:PT X a tA):PT X (.UnaryOp .Not a pos) (tNot tA):=by
 intro pins s O H Q I h
 exact isTrue_not (ha pins s O H (λc H1=>Q (!c) H1) I h)
def tAndV (ta tb:TE):TE:=λO H Q=>ta O H λx H1=>∃c,x = .bl c/\if c=true then tb O H1 Q else Q (.bl false) H1
def tNotV (ta:TE):TE:=λO H Q=>ta O H λx H1=>∃c,x = .bl c/\Q (.bl (!c)) H1
theorem pe_one {op}{t:TE}(h:PE X a t):PE X (.BoolOp op [a] pos) t:=λpins s O H Q I hw=>BoolOp_one (h pins s O H Q I hw)
theorem pe_and (ha:PE X a ta)(hb:PE X (.BoolOp .And (b::rest) pos) tb):PE X (.BoolOp .And (a::b::rest) pos) (tAndV ta tb):=by
 intro pins s O H Q I h
 refine BoolOp_and (thn (ha pins s O H _ I h) λv s1 ⟨x,H1,I1,r1,q1⟩=>?_)
 obtain⟨c,rfl,q1⟩:=q1
 cases r1
 refine wpAny_truthy_bool ?_
 cases c with
 |true=>exact hb pins s1 O H1 Q I1 q1
 |false=>exact⟨.bl false,H1,I1,rfl,q1⟩
theorem pe_not (ha:PE X a ta):PE X (.UnaryOp .Not a pos) (tNotV ta):=by
 intro pins s O H Q I h
 refine UnaryOp_ (thn (ha pins s O H _ I h) λv s1 ⟨x,H1,I1,r1,q1⟩=>?_)
 obtain⟨c,rfl,q1⟩:=q1
 cases r1
 exact not_of (wpAny_truthy_bool ⟨.bl (!c),H1,I1,rfl,q1⟩)
def tIf (t:TT)(ta tb:TE):TE:=λO H Q=>t O H λc H1=>if c=true then ta O H1 Q else tb O H1 Q
theorem pe_ifExp {c:Expr}(hc:PT X c tA)(ha:PE X a ta)(hb:PE X b tb):PE X (.IfExp c a b pos) (tIf tA ta tb):=by
 intro pins s O H Q I h
 refine wpAny_IfExp (thn (hc pins s O H _ I h) λd s1 ⟨H1,I1,q1⟩=>?_)
 cases d with
 |true=>exact ha pins s1 O H1 Q I1 q1
 |false=>exact hb pins s1 O H1 Q I1 q1
end
def SqL (K:Frag)(H:Hp)(a:Addr)(xs:List V):Prop:=
 Rd H a (.lst xs)∨
  ∃(o:Obj) (its:Array Value) (n:Nat),K.lookup a=some o/\o.cls = .type "list"/\o.dict=none/\o.data = .seq its n/\its.size<=sizeLine/\Vals xs its.toList
def SqT (K:Frag)(H:Hp)(a:Addr)(xs:List V):Prop:=
 Rd H a (.tup xs)∨
  ∃(o:Obj) (its:Array Value) (n:Nat),K.lookup a=some o/\o.cls = .type "tuple"/\o.data = .seq its n/\its.size<=sizeLine/\Vals xs its.toList
def absV:Value->Option V
 | .none=>some .non
 | .bool b=>some (.bl b)
 | .int i _=>some (.int i)
 | .str x _=>some (.str x)
 | .bytes b _=>some (.byt b)
 | .float b _=>some (.flt b)
 | .ref a=>some (.ref a)
 | .type n=>some (.ty n)
 |_=>none
theorem RelV.abs {x:V}{u:Value}(r:RelV x u):absV u=some x:=by
 cases x with
 |non=>cases r;rfl
 |bl _=>cases r;rfl
 |int _=>obtain⟨t,rfl⟩:=r;rfl
 |str _=>obtain⟨t,rfl⟩:=r;rfl
 |byt _=>obtain⟨t,rfl⟩:=r;rfl
 |flt _=>obtain⟨t,rfl⟩:=r;rfl
 |ref _=>cases r;rfl
 |ty _=>cases r;rfl
theorem RelV.inj {x y:V}{u:Value}(r:RelV x u)(q:RelV y u):x=y:=Option.some.inj (r.abs.symm.trans q.abs)
theorem Vals.inj:∀{xs ys:List V} {us:List Value},Vals xs us->Vals ys us->xs=ys
 |_,_,_,.nil,.nil=>rfl
 |_,_,_,.cons r t,.cons r' t'=>by rw[r.inj r',Vals.inj t t']
section
variable {X:Cx}{pins:List (Addr×Obj)}{O:St}{H:Hp}{s:Shared}{a:Addr}{xs ys:List V}
theorem SqL.of {K:Frag}(h:H a=some (.lst xs)):SqL K H a xs:=.inl (.inl h)
theorem Inv.list (I:Inv X pins O H s)(h:SqL X.K H a xs):∃its:List Value,Vals xs its/\PlainL s.heap a its.toArray/\xs.length<=sizeLine:=by
 rcases h with h | ⟨o,its,n,hk,hc,hd,hs,hz,r⟩
 .obtain ⟨z,its,n,r,e⟩:=h.ok I.hok
  exact⟨its,r,⟨_,n,e,rfl,rfl,rfl⟩,z⟩
 .refine ⟨its.toList,r,⟨o,n,I.kIn a o hk,hc,hd,hs⟩,?_⟩
  have e:=r.length
  simp only[length_toList]at e
  lia
theorem Inv.tuple (I:Inv X pins O H s)(h:SqT X.K H a xs):∃its:List Value,Vals xs its/\IsTup s.heap a its.toArray/\xs.length<=sizeLine:=by
 rcases h with h | ⟨o,its,n,hk,hc,hs,hz,r⟩
 .obtain ⟨z,its,r,p⟩:=h.ok I.hok
  exact⟨its,r,p,z⟩
 .refine ⟨its.toList,r,⟨o,I.kIn a o hk,hc,n,hs⟩,?_⟩
  have e:=r.length
  simp only[length_toList]at e
  lia
theorem Inv.list_inj (I:Inv X pins O H s)(h:SqL X.K H a xs)(h':SqL X.K H a ys):xs=ys:=by
 obtain⟨its,r,⟨o,n,e,_,_,d⟩,_⟩:=I.list h
 obtain⟨its',r',⟨o',n',e',_,_,d'⟩,_⟩:=I.list h'
 rw[e]at e';cases e'
 rw[d]at d'
 injection d' with d1 _
 have:its=its':=by simpa using congrArg Array.toList d1
 subst this
 exact r.inj r'
theorem Inv.tuple_inj (I:Inv X pins O H s)(h:SqT X.K H a xs)(h':SqT X.K H a ys):xs=ys:=by
 obtain⟨its,r,⟨o,e,_,n,d⟩,_⟩:=I.tuple h
 obtain⟨its',r',⟨o',e',_,n',d'⟩,_⟩:=I.tuple h'
 rw[e]at e';cases e'
 rw[d]at d'
 injection d' with d1 _
 have:its=its':=by simpa using congrArg Array.toList d1
 subst this
 exact r.inj r'
end
abbrev Cx.wish (X:Cx)(E:Value->Shared->Prop):Cx:={X with xe:=E}
abbrev Cx.nox (X:Cx):Cx:=X.wish λ_ _=>False
theorem Cx.Ok.wish {X:Cx}(ok:X.Ok)(E:Value->Shared->Prop):(X.wish E).Ok:=
 ⟨ok.mod,ok.kind,ok.glob,ok.blt,ok.above,ok.inj,ok.has,ok.cab,ok.hd,ok.frames,ok.stk,ok.exf,ok.bs,ok.bsz,ok.noex,ok.exfs,ok.funs,ok.frf⟩
theorem Cx.Ok.unwish {X:Cx}{E:Value->Shared->Prop}(ok:(X.wish E).Ok):X.Ok:=
 ⟨ok.mod,ok.kind,ok.glob,ok.blt,ok.above,ok.inj,ok.has,ok.cab,ok.hd,ok.frames,ok.stk,ok.exf,ok.bs,ok.bsz,ok.noex,ok.exfs,ok.funs,ok.frf⟩
section
variable {X:Cx}{pins:List (Addr×Obj)}{O:St}{H:Hp}{s:Shared}{E:Value->Shared->Prop}
theorem Inv.wish (I:Inv X pins O H s)(E:Value->Shared->Prop):Inv (X.wish E) pins O H s:=⟨I.ok.wish E,I.os,I.bare,I.base,I.loc,I.cell,I.free,I.freeC,I.pin,I.hok,I.len⟩
theorem Inv.unwish (I:Inv (X.wish E) pins O H s):Inv X pins O H s:=⟨I.ok.unwish,I.os,I.bare,I.base,I.loc,I.cell,I.free,I.freeC,I.pin,I.hok,I.len⟩
theorem SP.unwish {D:Ends}{f:Flow}{s':Shared}(h:SP (X.wish E) pins D f s'):SP X pins D f s':=by
 cases f with
 |next=>obtain⟨O',H',I,q⟩:=h;exact⟨O',H',I.unwish,q⟩
 |brk=>obtain⟨O',H',I,q⟩:=h;exact⟨O',H',I.unwish,q⟩
 |cont=>obtain⟨O',H',I,q⟩:=h;exact⟨O',H',I.unwish,q⟩
 |ret u=>obtain⟨v,O',H',I,r,q⟩:=h;exact⟨v,O',H',I.unwish,r,q⟩
theorem PSs.nox {st:List Stmt}{t:TS}(h:PSs X.nox st t):PSs X st t:=λpins s O H D I hw=>
 wpAny_mono (h pins s O H D (I.wish _) hw) (λ_ _ q=>q.unwish) λ_ _ z=>False.elim z
end
section
variable {X:Cx}{st:Stmt}{rest:List Stmt}{t u:TS}{e:Expr}{te:TE}{pos:Pos}
def tNext:TS:=λD O H=>D.nx O H
def tSeq (t u:TS):TS:=λD O H=>t {D with nx:=u D} O H
theorem pss_nil:PSs X [] tNext:=λ_ _ O H _ I h=>wpAny_execs_nil ⟨O,H,I,h⟩
theorem pss_cons (h1:PS X st t)(h2:PSs X rest u):PSs X (st::rest) (tSeq t u):=by
 intro pins s O H D I h
 refine wpAny_execs_cons (thn (h1 pins s O H {D with nx:=u D} I h) λf s1 q=>?_)
 cases f with
 |next=>
  obtain⟨O',H',I',q⟩:=q
  exact h2 pins s1 O' H' D I' q
 |ret v=>exact q
 |brk=>exact q
 |cont=>exact q
theorem pss_one (h1:PS X st t):PSs X [st] t:=by
 intro pins s O H D I h
 refine wpAny_execs_cons (thn (h1 pins s O H D I h) λf s1 q=>?_)
 cases f with
 |next=>exact wpAny_execs_nil q
 |ret v=>exact q
 |brk=>exact q
 |cont=>exact q
theorem Inv.quiet {pins:List (Addr×Obj)}{O:St}{H:Hp}{s:Shared}(I:Inv X pins O H s):interactive X.env=false:=by simp[interactive,I.ok.kind]
def tDrop (te:TE):TS:=λD O H=>te O H λ_ H1=>D.nx O H1
theorem ps_expr (he:PE X e te)(hs:swapsWith e none pos.line X.env=pure false:=by rfl):PS X (.Expr e pos) (tDrop te):=by
 intro pins s O H D I h
 exact wpAny_Expr_any (thn (he pins s O H _ I h) λv s1 ⟨x,H1,I1,r1,q1⟩=>⟨O,H1,I1,q1⟩) I.quiet hs
def tRet (te:TE):TS:=λD O H=>te O H D.rt
theorem ps_ret (he:PE X e te):PS X (.Return (some e) pos) (tRet te):=by
 intro pins s O H D I h
 exact wpAny_Return_some (thn (he pins s O H _ I h) λv s1 ⟨x,H1,I1,r1,q1⟩=>⟨x,O,H1,I1,r1,q1⟩)
def tIfS (c:TT)(t u:TS):TS:=λD O H=>c O H λb H1=>if b=true then t D O H1 else u D O H1
theorem ps_if {c:Expr}{a b:List Stmt}{tc:TT}(hc:PT X c tc)(ha:PSs X a t)(hb:PSs X b u):PS X (.If c a b pos) (tIfS tc t u):=by
 intro pins s O H D I h
 refine wpAny_If (thn (hc pins s O H _ I h) λd s1 ⟨H1,I1,q1⟩=>?_)
 cases d with
 |true=>exact ha pins s1 O H1 D I1 q1
 |false=>exact hb pins s1 O H1 D I1 q1
def tNever:TS:=λ_ _ _=>False
theorem ps_never:PS X st tNever:=λ_ _ _ _ _ _ h=>h.elim
end
abbrev TG:=V->St->Hp->(St->Hp->Prop)->Prop
abbrev TGs:=List V->St->Hp->(St->Hp->Prop)->Prop
def PG (X:Cx)(target:Expr)(t:TG):Prop:=
 ∀(pins:List (Addr×Obj)) (s:Shared) (O:St) (H:Hp) (v:V) (u:Value) (Q:St->Hp->Prop),Inv X pins O H s->RelV v u->t v O H Q->
  wpAny (model X.prog X.w) X.A (assign target X.env u) (λ_ s'=>∃O' H',Inv X pins O' H' s'/\Q O' H') X.xe s
def PGs (X:Cx)(ts:List Expr)(t:TGs):Prop:=
 ∀(pins:List (Addr×Obj)) (s:Shared) (O:St) (H:Hp) (vs:List V) (us:List Value) (Q:St->Hp->Prop),Inv X pins O H s->Vals vs us->t vs O H Q->
  wpAny (model X.prog X.w) X.A (assignInOrder ((assignEach ts X.env).map (·.2)) us) (λ_ s'=>∃O' H',Inv X pins O' H' s'/\Q O' H') X.xe s
abbrev TSet:=V->V->V->Hp->(Hp->Prop)->Prop
def PSet (X:Cx)(t:TSet):Prop:=
 ∀(pins:List (Addr×Obj)) (s:Shared) (O:St) (H:Hp) (o i v:V) (ov iv u:Value) (Q:Hp->Prop),Inv X pins O H s->RelV o ov->RelV i iv->RelV v u->t o i v H Q->
  wpAny (model X.prog X.w) X.A (setItem ov iv u) (λ_ s'=>∃H',Inv X pins O H' s'/\Q H') X.xe s
abbrev TIp:=V->V->Hp->VK->Prop
def PIp (X:Cx)(op:Operator)(t:TIp):Prop:=
 ∀(pins:List (Addr×Obj)) (s:Shared) (O:St) (H:Hp) (x y:V) (v u:Value) (Q:VK),Inv X pins O H s->RelV x v->RelV y u->t x y H Q->
  wpAny (model X.prog X.w) X.A (inplaceOp op v u) (EP X pins O Q) X.xe s
section
variable {X:Cx}{pos:Pos}
def gName (i:Nat):TG:=λv O H Q=>Q (O.set i (some v)) H
theorem pg_name {i:Nat}{x:Str}(hN:X.N.Nodup)(hi:X.N[i]?=some x)(hx:Loc X.env.scope x)(hf:X.fn x=true∨X.env.scope.names.lookup x=some .local:=by first |exact .inl rfl |exact .inr rfl |assumption):PG X (.Name x pos) (gName i):=by
 intro pins s O H v u Q I r h
 exact wpAny_assign_Name (store_ok I hN hi hx r (λs' I'=>⟨_,H,I',h⟩) hf)
def gNil:TGs:=λvs O H Q=>vs=[]/\Q O H
def gCons (t:TG)(u:TGs):TGs:=λvs O H Q=>∃v r,vs=v::r/\t v O H λO' H'=>u r O' H' Q
theorem pgs_nil:PGs X [] gNil:=by
 intro pins s O H vs us Q I r h
 obtain⟨e,h⟩:=h
 subst e
 exact assignInOrder_nil ⟨O,H,I,h⟩
theorem pgs_cons {e:Expr}{es:List Expr}{t:TG}{u:TGs}(h1:PG X e t)(h2:PGs X es u)
  (hs:(assignEach (e::es) X.env).map (·.2)=assign e X.env::(assignEach es X.env).map (·.2):=by rfl):PGs X (e::es) (gCons t u):=by
 intro pins s O H vs us Q I r h
 obtain⟨v,vr,e1,h⟩:=h
 subst e1
 cases r with
 |cons r rr=>
  rw[hs]
  refine assignInOrder_cons (thn (h1 pins s O H _ _ _ I r h) λ_ s1 ⟨O1,H1,I1,q1⟩=>?_)
  exact h2 pins s1 O1 H1 _ _ Q I1 rr q1
def gTup (K:Frag)(n:Nat)(t:TGs):TG:=λv O H Q=>∃a xs,v = .ref a/\SqT K H a xs/\xs.length=n/\t xs O H Q
theorem pg_tup {es:List Expr}{k:Nat}{t:TGs}{n:Nat}(hc:X.calm=true)(h:PGs X es t)
  (hn:(assignEach es X.env).length=n:=by rfl) (hst:(assignEach es X.env).findIdx? (·.1)=none:=by rfl):PG X (.Tuple es k pos) (gTup X.K n t):=by
 intro pins s O H v u Q I r hw
 obtain⟨a,xs,e1,hq,hl,hw⟩:=hw
 subst e1
 cases r
 obtain⟨its,rv,ht,hz⟩:=I.tuple hq
 refine assign_Tuple_tuple (I.ok.hd hc) ht (by simp[hn,<- hl,rv.length]) hst λh' hx=>?_
 have I1:Inv X pins O H {s with heap:=h'}:=I.kept (t':=s.toks) λb o e=>hx b o (ne_of_lt (lt_size e)) e
 exact h pins _ O H xs _ Q I1 rv hw
def gSub (to ti:TE)(t:TSet):TG:=λv O H Q=>to O H λo H1=>ti O H1 λi H2=>t o i v H2 λH3=>Q O H3
theorem pg_sub {o i:Expr}{to ti:TE}{t:TSet}(ho:PE X o to)(hi:PE X i ti)(hs:PSet X t)
  (ha:∀v,assign (.Subscript o i pos) X.env v=(do
   let ov <- holding [v] (eval o X.env)
   let iv <- holding [v,ov] (eval i X.env)
   standAt pos
   holding [v,ov,iv] (setItem ov iv v)
   release [v,ov,iv] []):=by intro _;rfl):PG X (.Subscript o i pos) (gSub to ti t):=by
 intro pins s O H v u Q I r h
 refine wpAny_bind (wpAny_holding (thn (ho pins s O H _ I h) λov s1 ⟨x,H1,I1,r1,q1⟩=>?_))
 refine wpAny_bind (wpAny_holding (thn (hi pins s1 O H1 _ I1 q1) λiv s2 ⟨y,H2,I2,r2,q2⟩=>?_))
 refine wpAny_bind (wpAny_standAt (wpAny_bind (wpAny_holding (thn (hs pins s2 O H2 x y v ov iv u _ I2 r1 r2 r q2) λ_ s3 ⟨H3,I3,q3⟩=>?_))))
 exact wpAny_release ⟨O,H3,I3,q3⟩
def tAsg (te:TE)(g:TG):TS:=λD O H=>te O H λx H1=>g x O H1 D.nx
theorem ps_asg {tg e:Expr}{te:TE}{g:TG}(he:PE X e te)(hg:PG X tg g)(hs:swapsWithSole [tg] e pos.line X.env=pure false:=by rfl)(hw:swappedStores [tg] e X.env=pure none:=by rfl)
  (h1:(assignEach [tg] X.env).map (·.2)=[assign tg X.env]:=by rfl):PS X (.Assign [tg] e pos) (tAsg te g):=by
 intro pins s O H D I h
 refine wpAny_Assign_stores (thn (he pins s O H _ I h) λv s1 ⟨x,H1,I1,r1,q1⟩=>?_) hs hw
 rw[h1]
 exact thn (hg pins s1 O H1 x v _ I1 r1 q1) λ_ s2 q=>q
theorem ps_set {i:Nat}{x:Str}{e:Expr}{te:TE}{pos':Pos}(hN:X.N.Nodup)(hi:X.N[i]?=some x)(hx:Loc X.env.scope x)(he:PE X e te)(hs:swapsWith e (some (.Name x pos')) pos.line X.env=pure false:=by rfl)(hf:X.fn x=true∨X.env.scope.names.lookup x=some .local:=by first |exact .inl rfl |exact .inr rfl |assumption):
  PS X (.Assign [.Name x pos'] e pos) (tAsg te (gName i)):=by
 intro pins s O H D I h
 refine wpAny_Assign_Name (thn (he pins s O H _ I h) λv s1 ⟨y,H1,I1,r1,q1⟩=>?_) hs
 exact store_ok I1 hN hi hx r1 (λs2 I2=>⟨_,H1,I2,q1⟩) hf
def tAug (i:Nat)(te:TE)(ti:TIp):TS:=λD O H=>∃x,O[i]?=some (some x)/\te O H λy H1=>ti x y H1 λz H2=>D.nx (O.set i (some z)) H2
theorem ps_aug {i:Nat}{x:Str}{e:Expr}{te:TE}{op:Operator}{ti:TIp}{pos':Pos}(hN:X.N.Nodup)(hi:X.N[i]?=some x)(hx:Loc X.env.scope x)(he:PE X e te)(ho:PIp X op ti)(hf:X.fn x=true∨X.env.scope.names.lookup x=some .local:=by first |exact .inl rfl |exact .inr rfl |assumption):
  PS X (.AugAssign (.Name x pos') op e pos) (tAug i te ti):=by
 intro pins s O H D I h
 obtain⟨v,e1,h⟩:=h
 obtain⟨m,hn,hl⟩:=I.loc
 have vis:Vis X.env.scope x:=by rcases hx with k |k;exact .inl k;exact .inr (.inl k)
 obtain⟨u,r,l⟩:=hl i x v hi e1 vis
 refine wpAny_AugAssign_Name ?_
 have go:wpAny (model X.prog X.w) X.A (eval e X.env) (λw s₂=>wpAny (model X.prog X.w) X.A (inplaceOp op u w) (λr s₃=>wpAny (model X.prog X.w) X.A (storeName X.env x r) (λ_=>SP X pins D .next) X.xe s₃) X.xe s₂) X.xe s:=by
  refine thn (he pins s O H _ I h) λw s1 ⟨y,H1,I1,r1,q1⟩=>?_
  refine thn (ho pins s1 O H1 v y u w _ I1 r r1 q1) λz s2 ⟨zv,H2,I2,r2,q2⟩=>?_
  exact store_ok I2 hN hi hx r2 (λs3 I3=>⟨_,H2,I3,q2⟩) hf
 rcases l with⟨hk,hm⟩ | ⟨hk,c,hc,hcell⟩
 .exact wpAny_loadName_local I.ok.kind hk hn hm go
 .rcases hk with hk |hk
  .exact wpAny_loadName_cell I.ok.kind hk hc hcell go
  .rcases hx with k |k
   .have:X.env.scope.names.lookup x=some .free:=hk
    rw[k]at this;cases this
   .have:X.env.scope.names.lookup x=some .free:=hk
    rw[k]at this;cases this
def ipI (f:Int->Int->Int):TIp:=λx y H Q=>∃i j,x = .int i/\y = .int j/\Q (.int (f i j)) H
theorem ip_add:PIp X .Add (ipI λi j=>i+j):=by
 intro pins s O H x y v u Q I r1 r2 h
 obtain⟨i,j,e1,e2,q⟩:=h
 subst e1;subst e2
 obtain⟨t,rfl⟩:=r1
 obtain⟨t',rfl⟩:=r2
 exact iadd_int ⟨.int _,H,I.tok _,⟨_,rfl⟩,q⟩
end
section
variable {X:Cx}{pos:Pos}
def tWhile (c:TT)(tb:TS):TS:=λD O H=>∃W:Nat->St->Hp->Prop,(∃m,W m O H)/\∀m O H,W m O H->
 c O H λb H1=>if b=true then ∃N:St->Hp->Prop,(∀O' H',N O' H'->∃m',m'<m/\W m' O' H')/\tb {D with nx:=N,ct:=N,bk:=D.nx} O H1 else D.nx O H1
theorem ps_while {c:Expr}{body:List Stmt}{tc:TT}{tb:TS}(hp:PassesOwn (model X.prog X.w) X.A X.env X.xe)(hc:PT X c tc)(hb:PSs X body tb):PS X (.While c body [] pos) (tWhile tc tb):=by
 intro pins s O H D I h
 obtain⟨W,⟨m0,w0⟩,turn⟩:=h
 refine wpAny_While (codeAny_whileLoop (λn s'=>∃O' H',Inv X pins O' H' s'/\W n O' H') ?_ m0 ⟨O,H,I,w0⟩)
 rintro n s1 ⟨O1,H1,I1,w1⟩
 refine wpAny_passesOwn hp (thn (hc pins s1 O1 H1 _ I1 (turn n O1 H1 w1)) λb s2 ⟨H2,I2,q2⟩=>?_)
 cases b with
 |true=>
  obtain⟨N,hN,q2⟩:=q2
  refine wpAny_passesOwn hp (thn (hb pins s2 O1 H2 _ I2 q2) λf s3 q3=>?_)
  cases f with
  |next=>
   obtain⟨O3,H3,I3,n3⟩:=q3
   obtain⟨m',hm,w3⟩:=hN O3 H3 n3
   exact⟨m',hm,O3,H3,I3,w3⟩
  |cont=>
   obtain⟨O3,H3,I3,n3⟩:=q3
   obtain⟨m',hm,w3⟩:=hN O3 H3 n3
   exact⟨m',hm,O3,H3,I3,w3⟩
  |brk=>exact q3
  |ret v=>exact q3
 |false=>
  exact wpAny_execs_nil ⟨O1,H2,I2,q2⟩
end
structure It where
 go:Nat->Hp->Prop
 yld:Nat->Hp->V->Hp->Prop
 stop:Nat->Hp->Prop
def FpOk (X:Cx)(pins:List (Addr×Obj))(H:Hp)(b:Addr):Prop:=
 H b=none/\b≠X.env.locals/\b∉X.fs/\(b∈X.ex∨X.s₀.heap.objs.size<=b)/\(∀x c,X.env.cells.lookup x=some c->c≠b)/\∀p∈X.pn++pins,p.1≠b
theorem Inv.fpOk {X:Cx}{pins:List (Addr×Obj)}{O:St}{H H':Hp}{s:Shared}{b:Addr}(I:Inv X pins O H s)(hb:s.heap.objs.size<=b)(hn:H' b=none):FpOk X pins H' b:=by
 refine⟨hn,ne_of_gt (lt_of_lt_of_le I.lt hb),I.nofs hb,.inr (Nat.le_trans I.sz hb),λx c e z=>?_,λp hp z=>?_⟩
 .obtain ⟨v,q⟩:=I.cell x c e
  exact absurd (lt_of_lt_of_le q.lt (by rw[z];exact hb)) (lt_irrefl _)
 .exact absurd (lt_of_lt_of_le (lt_size (I.pin p hp).1) (by rw[z];exact hb)) (lt_irrefl _)
structure Turn (P:Program) (w:World) (K:Frag) (tg:Expr) (J:It) (fp:List Addr) (it:Addr) (tn:Nat->Heap->Prop):Prop where
 mem:it∈fp
 obj:∀i h,tn i h->∀b∈fp,∃o,h.get? b=some o/\∀v,o.data≠.cell v
 keep:∀i h h',tn i h->(∀b∈fp,∀o,h.get? b=some o->h'.get? b=some o)->tn i h'
 item:∀(X:Cx),X.prog=P->X.w=w->X.K=K->X.calm=true->∀(i:Nat) (pins:List (Addr×Obj)) (s:Shared) (O:St) (H:Hp) (E:Value->Shared->Prop),Inv X pins O H s->(∀b∈fp,FpOk X pins H b)->tn i s.heap->J.go i H->
  wpAny (model P w) X.A (pyNext (.ref it)) (λr s1=>∃u,r=some u/\
   wpAny (model P w) X.A (letOwnedTupleGo tg (.ref it) u) (λ_ s2=>∃x H',Inv X pins O H' s2/\RelV x u/\J.yld i H x H'/\tn (i+1) s2.heap/\∀b∈fp,H' b=none) E s1) E s
 done:∀(X:Cx),X.prog=P->X.w=w->X.K=K->X.calm=true->∀(i:Nat) (pins:List (Addr×Obj)) (s:Shared) (O:St) (H:Hp) (E:Value->Shared->Prop),Inv X pins O H s->(∀b∈fp,FpOk X pins H b)->tn i s.heap->J.stop i H->
  wpAny (model P w) X.A (pyNext (.ref it)) (λr s1=>r=none/\Inv X pins O H s1) E s
 self:∀(A:Around) (i:Nat) (s:Shared) (Q:Value->Shared->Prop) (E:Value->Shared->Prop),tn i s.heap->Q (.ref it) s->wpAny (model P w) A (pyIter (.ref it)) Q E s
abbrev TI:=St->Hp->(It->Hp->Prop)->Prop
def PIE (X:Cx)(pins:List (Addr×Obj))(O:St)(tg:Expr)(R:It->Hp->Prop)(itv:Value)(s2:Shared):Prop:=
 ∃(it:Addr) (fp:List Addr) (tn:Nat->Heap->Prop) (J:It) (H':Hp),itv = .ref it/\Inv X pins O H' s2/\Turn X.prog X.w X.K tg J fp it tn/\tn 0 s2.heap/\(∀b∈fp,FpOk X pins H' b)/\R J H'
def PI (X:Cx)(tg iter:Expr)(wi:TI):Prop:=
 ∀(pins:List (Addr×Obj)) (s:Shared) (O:St) (H:Hp) (R:It->Hp->Prop),Inv X pins O H s->wi O H R->
  wpAny (model X.prog X.w) X.A (eval iter X.env) (λv s1=>wpAny (model X.prog X.w) X.A (pyIter v) (PIE X pins O tg R) X.xe s1) X.xe s
theorem go_of {δ:Model}{A:Around}{E:Value->Shared->Prop}{s:Shared}{tg:Expr}{it:Addr}{u:Value}{o:Obj}{n:String}{vs:Array Value}{Q:Unit->Shared->Prop}(ho:s.heap.get? it=some o)(hc:o.cls = .type n)(hd:o.data = .fields vs)
  (hn:["enumerate","zip","dict_itemiterator","dict_reverseitemiterator","odict_iterator","itertools.zip_longest","itertools.pairwise"].contains n=false) (hQ:Q () s):wpAny δ A (letOwnedTupleGo tg (.ref it) u) Q E s:=by
 cases tg <;> first
  |exact wpAny_pure hQ
  | (cases u<;>first
    |exact wpAny_pure hQ
    | (refine wpAny_bind (wpAny_load ho ?_)
       rw[hc,hd]
       show wpAny δ A (if (["enumerate","zip","dict_itemiterator","dict_reverseitemiterator","odict_iterator","itertools.zip_longest","itertools.pairwise"].contains n && vs[0]?==some (rawInt _))=true then _ else _) Q E s
       rw[if_neg (by intro h;rw[hn]at h;cases h)]
       exact wpAny_pure hQ))
def Itl (K:Frag)(a:Addr):It:=
 ⟨λi H=>∃xs x,SqL K H a xs/\xs[i]?=some x,λi H x H'=>H'=H/\∀xs,SqL K H a xs->xs[i]?=some x,λi H=>∃xs,SqL K H a xs/\xs.length<=i⟩
def Itt (K:Frag)(a:Addr):It:=
 ⟨λi H=>∃xs x,SqT K H a xs/\xs[i]?=some x,λi H x H'=>H'=H/\∀xs,SqT K H a xs->xs[i]?=some x,λi H=>∃xs,SqT K H a xs/\xs.length<=i⟩
def Itr (lo:Int)(n:Nat):It:=⟨λi _=>i<n,λi H x H'=>H'=H/\x = .int (lo+i),λi _=>n<=i⟩
theorem turn_list {P:Program}{w:World}{K:Frag}{tg:Expr}(a it:Addr):Turn P w K tg (Itl K a) [it] it (λi h=>h.IsListIter it a i) where
 mem:=by simp
 obj:=λi h st b hb=>by
  have e:b=it:=by simpa using hb
  subst e
  obtain⟨o,e,c,d⟩:=st
  exact⟨o,e,λv z=>by rw[d]at z;cases z⟩
 keep:=λi h h' st k=>st.at λo e=>k it (by simp) o e
 item:=by
  kj_on
  obtain⟨xs,x,hq,hx⟩:=hg
  obtain⟨its,rv,p,hz⟩:=I.list hq
  obtain⟨u,hu,ru⟩:=rv.get hx
  obtain⟨f0,f1,f2,f3,f4,f5⟩:=hf it (by simp)
  refine wpAny_pyNext_list_item st p.isList (by simpa using hu) λh' st' sb=>?_
  have I1:Inv X pins O H {s with heap:=h'}:=I.turned (t':=s.toks) (λb o hb e=>(sb.2 b hb).trans e) f0 f1 f3 f4 f5
  obtain⟨o,e,c,d⟩:=id st'
  exact⟨u,rfl,go_of (s:={s with heap:=h'}) e c d rfl ⟨x,H,I1,ru,⟨rfl,λys hy=>by rw[I.list_inj hy hq];exact hx⟩,st',λb hb=>(hf b hb).1⟩⟩
 done:=by
  kj_on
  obtain⟨xs,hq,hx⟩:=hg
  obtain⟨its,rv,p,hz⟩:=I.list hq
  obtain⟨f0,f1,f2,f3,f4,f5⟩:=hf it (by simp)
  have hl:=rv.length
  exact wpAny_pyNext_list_end (I.ok.hd hc) st p.isList (by simp;lia) λh' eb=>⟨rfl,I.turned (t':=s.toks) (λb o hb e=>eb b o hb e) f0 f1 f3 f4 f5⟩
 self:=λ_ _ _ _ _ st h=>wpAny_pyIter_listiter st h
theorem turn_tuple {P:Program}{w:World}{K:Frag}{tg:Expr}(a it:Addr):Turn P w K tg (Itt K a) [it] it (λi h=>h.IsTupleIter it a i) where
 mem:=by simp
 obj:=λi h st b hb=>by
  have e:b=it:=by simpa using hb
  subst e
  obtain⟨o,e,c,d⟩:=st
  exact⟨o,e,λv z=>by rw[d]at z;cases z⟩
 keep:=λi h h' st k=>st.at λo e=>k it (by simp) o e
 item:=by
  kj_on
  obtain⟨xs,x,hq,hx⟩:=hg
  obtain⟨its,rv,p,hz⟩:=I.tuple hq
  obtain⟨u,hu,ru⟩:=rv.get hx
  obtain⟨f0,f1,f2,f3,f4,f5⟩:=hf it (by simp)
  refine wpAny_pyNext_tuple_item st (show s.heap.IsTuple a its.toArray from p) (by simpa using hu) λh' st' sb=>?_
  have I1:Inv X pins O H {s with heap:=h'}:=I.turned (t':=s.toks) (λb o hb e=>(sb.2 b hb).trans e) f0 f1 f3 f4 f5
  obtain⟨o,e,c,d⟩:=id st'
  exact⟨u,rfl,go_of (s:={s with heap:=h'}) e c d rfl ⟨x,H,I1,ru,⟨rfl,λys hy=>by rw[I.tuple_inj hy hq];exact hx⟩,st',λb hb=>(hf b hb).1⟩⟩
 done:=by
  kj_on
  obtain⟨xs,hq,hx⟩:=hg
  obtain⟨its,rv,p,hz⟩:=I.tuple hq
  obtain⟨f0,f1,f2,f3,f4,f5⟩:=hf it (by simp)
  have hl:=rv.length
  exact wpAny_pyNext_tuple_end (I.ok.hd hc) st (show s.heap.IsTuple a its.toArray from p) (by simp;lia) λh' eb=>⟨rfl,I.turned (t':=s.toks) (λb o hb e=>eb b o hb e) f0 f1 f3 f4 f5⟩
 self:=λ_ _ _ _ _ st h=>wpAny_pyIter_tupleiter st h
theorem turn_range {P:Program}{w:World}{K:Frag}{tg:Expr}(it:Addr)(lo:Int)(n:Nat):Turn P w K tg (Itr lo n) [it] it (λi h=>IsRangeIter h it (lo+(i:Nat)*1) ((n:Int)-(i:Nat)) 1) where
 mem:=by simp
 obj := λi h st b hb=>by
  have e:b=it:=by simpa using hb
  subst e
  exact⟨_,st,λv z=>by
   have z':Data.fields _=Data.cell v:=z
   cases z'⟩
 keep:=λi h h' st k=>k it (by simp) _ st
 item:=by
  kj_on
  obtain⟨f0,f1,f2,f3,f4,f5⟩:=hf it (by simp)
  have W:=Walks.range (prog:=X.prog) (w:=X.w) (I.ok.hd hc) it lo 1 n
  refine W.item i s _ _ hg st λv h' tk hv st' kk=>?_
  obtain⟨t,rfl⟩:=hv
  have I1:Inv X pins O H {s with heap:=h',toks:=tk}:=I.turned (λb o hb e=>kk b o (by simpa using hb) e) f0 f1 f3 f4 f5
  refine⟨_,rfl,go_of (s:={s with heap:=h',toks:=tk}) (n := "range_iterator") st' rfl rfl rfl ⟨.int (lo+i),H,I1,⟨t,?_⟩,⟨rfl,rfl⟩,st',λb hb=>(hf b hb).1⟩⟩
  rw[mul_one]
 done:=by
  intro X hP hw hK hc i pins s O H E I hf st hg
  obtain⟨f0,f1,f2,f3,f4,f5⟩:=hf it (by simp)
  exact wpAny_pyNext_range_end (I.ok.hd hc) st (by have:n<=i:=hg;lia) λh' eb=>⟨rfl,I.turned (t':=s.toks) (λb o hb e=>eb b o hb e) f0 f1 f3 f4 f5⟩
 self:=λ_ _ _ _ _ st h=>wpAny_pyIter_rangeiter st h
section
variable {X:Cx}{tg:Expr}
def iList (K:Frag)(tl:TE):TI:=λO H R=>tl O H λx H1=>∃a,x = .ref a/\(∃xs,SqL K H1 a xs)/\R (Itl K a) H1
def iTup (K:Frag)(tl:TE):TI:=λO H R=>tl O H λx H1=>∃a,x = .ref a/\(∃xs,SqT K H1 a xs)/\R (Itt K a) H1
theorem pi_list {l:Expr}{tl:TE}(hl:PE X l tl):PI X tg l (iList X.K tl):=by
 intro pins s O H R I h
 refine thn (hl pins s O H _ I h) λv s1 ⟨x,H1,I1,r1,q1⟩=>?_
 obtain⟨a,e,⟨xs,hq⟩,q⟩:=q1
 subst e
 cases r1
 obtain⟨its,rv,p,hz⟩:=I1.list hq
 refine wpAny_pyIter_list p.isList ?_
 refine⟨s1.heap.objs.size,[s1.heap.objs.size],_,_,H1,rfl,I1.kept (t':=s1.toks) λb o e=>get?_push_of_some _ e,turn_list a _,⟨_,get?_push_size _ rfl,rfl,rfl⟩,λb hb=>?_,q⟩
 have e:b=s1.heap.objs.size:=by simpa using hb
 subst e
 exact I1.fpOk (Nat.le_refl _) (I1.hok.fresh (Nat.le_refl _))
theorem pi_tup {l:Expr}{tl:TE}(hl:PE X l tl):PI X tg l (iTup X.K tl):=by
 intro pins s O H R I h
 refine thn (hl pins s O H _ I h) λv s1 ⟨x,H1,I1,r1,q1⟩=>?_
 obtain⟨a,e,⟨xs,hq⟩,q⟩:=q1
 subst e
 cases r1
 obtain⟨its,rv,p,hz⟩:=I1.tuple hq
 refine wpAny_pyIter_tuple (show s1.heap.IsTuple a its.toArray from p) ?_
 refine⟨s1.heap.objs.size,[s1.heap.objs.size],_,_,H1,rfl,I1.kept (t':=s1.toks) λb o e=>get?_push_of_some _ e,turn_tuple a _,⟨_,get?_push_size _ rfl,rfl,rfl⟩,λb hb=>?_,q⟩
 have e:b=s1.heap.objs.size:=by simpa using hb
 subst e
 exact I1.fpOk (Nat.le_refl _) (I1.hok.fresh (Nat.le_refl _))
theorem range_it {pins:List (Addr×Obj)}{O:St}{H:Hp}{s:Shared}{R:It->Hp->Prop}{E:Value->Shared->Prop}{lo hi:Int}{t u v:Tok}{tk:Nat}(I:Inv X pins O H s)(h1 : -(2^62)<=lo)(h2:lo<2^62)(h3 : -(2^62)<=hi)(h4:hi<2^62)
  (q:R (Itr lo (hi-lo).toNat) H):wpAny (model X.prog X.w) X.A (pyIter (.ref s.heap.objs.size)) (PIE X pins O tg R) E {s with heap:=s.heap.push {cls:=.type "range",data:=.fields #[.int lo t,.int hi u,.int 1 v]},toks:=tk}:=by
 refine wpAny_pyIter_range (IsRange.new ..) (small_one h1 h2 h3 h4) ?_
 have I1:Inv X pins O H {s with heap:=s.heap.push {cls:=.type "range",data:=.fields #[.int lo t,.int hi u,.int 1 v]},toks:=tk}:=I.kept λb o e=>get?_push_of_some _ e
 refine⟨(s.heap.push {cls:=.type "range",data:=.fields #[.int lo t,.int hi u,.int 1 v]}).objs.size,[(s.heap.push {cls:=.type "range",data:=.fields #[.int lo t,.int hi u,.int 1 v]}).objs.size],_,_,H,rfl,
  I1.kept (t':=tk) λb o e=>get?_push_of_some _ e,turn_range _ lo (hi-lo).toNat,?_,λb hb=>?_,q⟩
 .have e1:lo+((0:Nat):Int)*1=lo:=by simp
  have e2:(((hi-lo).toNat:Nat):Int)-((0:Nat):Int)=Builtin.Range.rangeSize lo hi 1:=by rw[rangeSize_one];split<;>lia
  rw[e1,e2]
  exact get?_push_size _ rfl
 .have e:b=(s.heap.push {cls:=.type "range",data:=.fields #[.int lo t,.int hi u,.int 1 v]}).objs.size:=by simpa using hb
  subst e
  exact I1.fpOk (Nat.le_refl _) (I1.hok.fresh (Nat.le_refl _))
def iRng1 (ta:TA):TI:=λO H R=>ta O H λvs H1=>∃j:Int,vs=[.int j]/\-(2^62)<=j/\j<2^62/\R (Itr 0 j.toNat) H1
theorem pi_range1 {a:Expr}{ta:TA}{p pos:Pos}(hg:Gl X "range")(hm:X.mg "range"=none)(ha:PA X [a] ta)(hs:starEach [a] X.env=[(false,eval a X.env)]:=by rfl):PI X tg (.Call (.Name "range" p) [a] [] pos) (iRng1 ta):=by
 intro pins s O H R I h
 refine Call_ (ld_blt I hg hm boot_range (PyProof.Rows.callWith_type1 (thn (ha pos pins s O H _ I h) λus s1 ⟨vs,H1,I1,r1,q1⟩=>?_) hs rfl))
 obtain⟨j,e,q1,q2,q⟩:=q1
 subst e
 cases r1 with
 |cons r rr=>
  cases rr
  obtain⟨t,rfl⟩:=r
  exact call_range_1 (range_it I1 (by lia) (by lia) q1 q2 (by simpa using q))
def tFor (wi:TI)(g:TG)(tb:TS):TS:=λD O H=>wi O H λJ H1=>∃W:Nat->Nat->St->Hp->Prop,(∃m,W 0 m O H1)/\∀i m O H,W i m O H->
 (J.stop i H/\D.nx O H)∨(J.go i H/\∃N:St->Hp->Prop,(∀O' H',N O' H'->∃m',m'<m/\W (i+1) m' O' H')/\∀x H',J.yld i H x H'->g x O H' λO2 H2=>tb {D with nx:=N,ct:=N,bk:=D.nx} O2 H2)
def pinsAt (fp:List Addr)(h:Heap):List (Addr×Obj):=fp.filterMap λb=>(h.get? b).map λo=>(b,o)
theorem mem_pinsAt {fp:List Addr}{h:Heap}{b:Addr}{o:Obj}(hb:b∈fp)(e:h.get? b=some o):(b,o)∈pinsAt fp h:=List.mem_filterMap.mpr ⟨b,hb,by rw[e];rfl⟩
theorem of_pinsAt {fp:List Addr}{h:Heap}{p:Addr×Obj}(hp:p∈pinsAt fp h):p.1∈fp/\h.get? p.1=some p.2:=by
 obtain⟨b,hb,e⟩:=List.mem_filterMap.mp hp
 cases q:h.get? b with
 |none=>rw[q]at e;cases e
 |some o=>
  rw[q]at e
  have e':(b,o)=p:=Option.some.inj e
  subst e'
  exact⟨hb,q⟩
theorem Inv.pinned {pins:List (Addr×Obj)}{O:St}{H:Hp}{s:Shared}{fp:List Addr}(I:Inv X pins O H s)(hf:∀b∈fp,FpOk X pins H b)(ho:∀b∈fp,∃o,s.heap.get? b=some o/\∀v,o.data≠.cell v):Inv X (pins++pinsAt fp s.heap) O H s:=
 I.pins_of λp hp=>(mem_append.mp hp).elim (λz=>I.pin p (mem_append_right _ z)) λz=>by
  obtain⟨hb,e⟩:=of_pinsAt z
  obtain⟨f0,f1,f2,_⟩:=hf p.1 hb
  obtain⟨o,e',d⟩:=ho p.1 hb
  rw[e]at e';cases e'
  exact⟨e,f0,f1,f2,d⟩
theorem Inv.unpinned {pins pl:List (Addr×Obj)}{O:St}{H:Hp}{s:Shared}(I:Inv X (pins++pl) O H s):Inv X pins O H s:=I.pins_of λp hp=>I.pin p (mem_append_right _ (mem_append_left _ hp))
theorem ps_for {iter:Expr}{body:List Stmt}{wi:TI}{g:TG}{tb:TS}{pos:Pos}(hp:PassesOwn (model X.prog X.w) X.A X.env X.xe)(hc:X.calm=true)(hi:PI X tg iter wi)(hg:PG X tg g)(hb:PSs X body tb)
  (hs:∀x,foldedSetIterable iter X.env x=pure x:=by intro _;rfl):PS X (.For tg iter body [] pos) (tFor wi g tb):=by
 intro pins s O H D I h
 refine wpAny_For (thn (hi pins s O H _ I h) λv s1 h1=>thn h1 λitv s2 h2=>?_) hs
 obtain⟨it,fp,tn,J,H2,e,I2,T,st2,f2,W,⟨m0,w0⟩,turn⟩:=h2
 subst e
 have stat:∀{H':Hp},(∀b∈fp,H' b=none)->∀b∈fp,FpOk X pins H' b:=λhn b hb=>⟨hn b hb,(f2 b hb).2⟩
 refine codeAny_forLoop_any (λn s'=>∃i O' H',Inv X pins O' H' s'/\tn i s'.heap/\(∀b∈fp,H' b=none)/\W i n O' H') ?_ m0 ⟨0,O,H2,I2,st2,λb hb=>(f2 b hb).1,w0⟩
 rintro n s3 ⟨i,O3,H3,I3,st3,fr3,w3⟩
 rcases turn i n O3 H3 w3 with⟨stop,qn⟩ | ⟨go,N,hN,step⟩
 .refine wpAny_passesOwn hp (thn (T.done X rfl rfl rfl hc i pins s3 O3 H3 X.xe I3 (stat fr3) st3 stop) λr s4 ⟨hr,I4⟩=>?_)
  subst hr
  exact wpAny_execs_nil ⟨O3,H3,I4,qn⟩
 .refine wpAny_passesOwn hp (thn (T.item X rfl rfl rfl hc i pins s3 O3 H3 X.xe I3 (stat fr3) st3 go) λr s4 ⟨u,hr,h4⟩=>?_)
  subst hr
  refine wpAny_passesOwn hp (thn h4 λ_ s5 ⟨x,H5,I5,r5,y5,st5,fr5⟩=>?_)
  have I5':=I5.pinned (stat fr5) (T.obj _ _ st5)
  refine wpAny_passesOwn hp (thn (hg _ s5 O3 H5 x u _ I5' r5 (step x H5 y5)) λ_ s6 ⟨O6,H6,I6,q6⟩=>?_)
  refine wpAny_passesOwn hp (thn (hb _ s6 O6 H6 _ I6 q6) λf s7 q7=>?_)
  have again:∀{O7:St} {H7:Hp},Inv X (pins++pinsAt fp s5.heap) O7 H7 s7->N O7 H7->∃m,m<n/\∃i O' H',Inv X pins O' H' s7/\tn i s7.heap/\(∀b∈fp,H' b=none)/\W i m O' H':=λ{O7 H7} I7 n7=>by
   obtain⟨m',hm,w7⟩:=hN O7 H7 n7
   refine⟨m',hm,i+1,O7,H7,I7.unpinned,T.keep _ _ _ st5 λb hb o e=>(I7.pin (b,o) (mem_append_right _ (mem_append_right _ (mem_pinsAt hb e)))).1,λb hb=>?_,w7⟩
   obtain⟨o,e,d⟩:=T.obj _ _ st5 b hb
   exact (I7.pin (b,o) (mem_append_right _ (mem_append_right _ (mem_pinsAt hb e)))).2.1
  cases f with
  |next=>obtain⟨O7,H7,I7,n7⟩:=q7;exact again I7 n7
  |cont=>obtain⟨O7,H7,I7,n7⟩:=q7;exact again I7 n7
  |brk=>obtain⟨O7,H7,I7,q7⟩:=q7;exact⟨O7,H7,I7.unpinned,q7⟩
  |ret v=>obtain⟨x7,O7,H7,I7,r7,q7⟩:=q7;exact⟨x7,O7,H7,I7.unpinned,r7,q7⟩
end
abbrev R2:=V->V->Hp->VK->Prop
def OpR (X:Cx)(f:Value->Value->Sem Value)(r:R2):Prop:=
 ∀(pins:List (Addr×Obj)) (s:Shared) (O:St) (H:Hp) (x y:V) (v u:Value) (Q:VK),Inv X pins O H s->RelV x v->RelV y u->r x y H Q->
  wpAny (model X.prog X.w) X.A (f v u) (EP X pins O Q) X.xe s
def UnR (X:Cx)(f:Value->Sem Value)(r:V->Hp->VK->Prop):Prop:=
 ∀(pins:List (Addr×Obj)) (s:Shared) (O:St) (H:Hp) (x:V) (v:Value) (Q:VK),Inv X pins O H s->RelV x v->r x H Q->
  wpAny (model X.prog X.w) X.A (f v) (EP X pins O Q) X.xe s
def CallR (X:Cx)(f:Value)(r:List V->Hp->VK->Prop):Prop:=
 ∀(pins:List (Addr×Obj)) (s:Shared) (O:St) (H:Hp) (xs:List V) (us:List Value) (Q:VK),Inv X pins O H s->Vals xs us->r xs H Q->
  wpAny (model X.prog X.w) X.A (call f us) (EP X pins O Q) X.xe s
def tOp (r:R2)(ta tb:TE):TE:=λO H Q=>ta O H λx H1=>tb O H1 λy H2=>r x y H2 Q
def tUn (r:V->Hp->VK->Prop)(ta:TE):TE:=λO H Q=>ta O H λx H1=>r x H1 Q
def rI (C:Int->Int->Prop)(g:Int->Int->V):R2:=λx y H Q=>∃i j,x = .int i/\y = .int j/\C i j/\Q (g i j) H
def rI0 (g:Int->Int->V):R2:=λx y H Q=>∃i j,x = .int i/\y = .int j/\Q (g i j) H
def rU (g:Int->V):V->Hp->VK->Prop:=λx H Q=>∃i,x = .int i/\Q (g i) H
section
variable {X:Cx}{a b c:Expr}{ta tb tc:TE}{pos:Pos}
theorem binT (ha:PE X a ta)(hb:PE X b tb){pins:List (Addr×Obj)}{s:Shared}{O:St}{H:Hp}{R:V->V->Hp->Prop}(I:Inv X pins O H s)
  (h:ta O H λx H1=>tb O H1 λy H2=>R x y H2) {Q:Value->Shared->Prop} {f:Value->Value->Sem Value}
  (hf:∀v u s2 x y H2,Inv X pins O H2 s2->RelV x v->RelV y u->R x y H2->wpAny (model X.prog X.w) X.A (f v u) Q X.xe s2):
  wpAny (model X.prog X.w) X.A (eval a X.env) (λv s₁=>wpAny (model X.prog X.w) X.A (eval b X.env) (λu s₂=>wpAny (model X.prog X.w) X.A (f v u) Q X.xe s₂) X.xe s₁) X.xe s:=by
 refine thn (ha pins s O H _ I h) λv s1 ⟨x,H1,I1,r1,q1⟩=>?_
 refine thn (hb pins s1 O H1 _ I1 q1) λu s2 ⟨y,H2,I2,r2,q2⟩=>?_
 exact hf v u s2 x y H2 I2 r1 r2 q2
theorem pe_op {op:Operator}{r:R2}(ho:OpR X (binaryOp op) r)(ha:PE X a ta)(hb:PE X b tb):PE X (.BinOp a op b pos) (tOp r ta tb):=by
 intro pins s O H Q I h
 exact wpAny_BinOp (binT ha hb I h λv u s2 x y H2 I2 rx ry q=>ho pins s2 O H2 x y v u Q I2 rx ry q)
theorem pe_un {op:UnaryOp}{r:V->Hp->VK->Prop}(ho:UnR X (unaryOp op) r)(ha:PE X a ta):PE X (.UnaryOp op a pos) (tUn r ta):=by
 intro pins s O H Q I h
 exact UnaryOp_ (thn (ha pins s O H _ I h) λv s1 ⟨x,H1,I1,r1,q1⟩=>ho pins s1 O H1 x v Q I1 r1 q1)
theorem opI {f:Value->Value->Sem Value}{C:Int->Int->Prop}{g:Int->Int->Int}
  (rule:∀(i j:Int) (t u:Tok) (s:Shared) (Q:Value->Shared->Prop) (E:Value->Shared->Prop),C i j->Q (.int (g i j) s.toks) {s with toks:=s.toks+1}->wpAny (model X.prog X.w) X.A (f (.int i t) (.int j u)) Q E s):
  OpR X f (rI C λi j=>.int (g i j)):=by
 intro pins s O H x y v u Q I rx ry h
 obtain⟨i,j,rfl,rfl,hc,q⟩:=h
 obtain⟨t,rfl⟩:=rx
 obtain⟨t',rfl⟩:=ry
 exact rule i j t t' s _ _ hc ⟨.int (g i j),H,I.tok _,⟨_,rfl⟩,q⟩
theorem opI0 {f:Value->Value->Sem Value}{g:Int->Int->Int}
  (rule:∀(i j:Int) (t u:Tok) (s:Shared) (Q:Value->Shared->Prop) (E:Value->Shared->Prop),Q (.int (g i j) s.toks) {s with toks:=s.toks+1}->wpAny (model X.prog X.w) X.A (f (.int i t) (.int j u)) Q E s):
  OpR X f (rI0 λi j=>.int (g i j)):=by
 intro pins s O H x y v u Q I rx ry h
 obtain⟨i,j,rfl,rfl,q⟩:=h
 obtain⟨t,rfl⟩:=rx
 obtain⟨t',rfl⟩:=ry
 exact rule i j t t' s _ _ ⟨.int (g i j),H,I.tok _,⟨_,rfl⟩,q⟩
theorem opB0 {f:Value->Value->Sem Value}{g:Int->Int->Bool}
  (rule:∀(i j:Int) (t u:Tok) (s:Shared) (Q:Value->Shared->Prop) (E:Value->Shared->Prop),Q (.bool (g i j)) s->wpAny (model X.prog X.w) X.A (f (.int i t) (.int j u)) Q E s):
  OpR X f (rI0 λi j=>.bl (g i j)):=by
 intro pins s O H x y v u Q I rx ry h
 obtain⟨i,j,rfl,rfl,q⟩:=h
 obtain⟨t,rfl⟩:=rx
 obtain⟨t',rfl⟩:=ry
 exact rule i j t t' s _ _ ⟨.bl (g i j),H,I,rfl,q⟩
def CDiv (i j:Int):Prop:=0<j/\j<1073741824
def CPow (i j:Int):Prop:=0<=j/\j<=1000000/\i.natAbs<2^64
def CMul (i j:Int):Prop:=(-(2^64)<i/\i<2^64)∨(-(2^64)<j/\j<2^64)
theorem CMul.ok {i j:Int}(h:CMul i j):IntMulOk i j:=by
 rcases h with⟨h1,h2⟩ | ⟨h1,h2⟩
 .exact .of_left (intBits_le_64 h1 h2)
 .exact .of_right (intBits_le_64 h1 h2)
theorem two_pow_nn (k:Nat):(0:Int)<=2^k:=by
 exact Int.natCast_nonneg _
theorem op_add:OpR X (binaryOp .Add) (rI0 λi j=>.int (i+j)):=opI0 λ_ _ _ _ _ _ _ q=>add_int q
theorem op_sub:OpR X (binaryOp .Sub) (rI0 λi j=>.int (i-j)):=opI0 λ_ _ _ _ _ _ _ q=>sub_int q
theorem op_mul:OpR X (binaryOp .Mult) (rI CMul λi j=>.int (i*j)):=opI λ_ _ _ _ _ _ _ hc q=>mul_int q hc.ok
theorem op_fdiv:OpR X (binaryOp .FloorDiv) (rI CDiv λi j=>.int (i / j)):=opI λi j _ _ _ _ _ hc q=>by
 have h1:(0:Int)<j:=hc.1
 have h2:j<1073741824:=hc.2
 exact floordiv_int (by lia) (by rw[Int.fdiv_eq_ediv_of_nonneg i (by lia)];exact q) (.inl (PyProof.noPylong_small (by omega)))
theorem op_mod:OpR X (binaryOp .Mod) (rI (λ_ j=>0<j) λi j=>.int (i%j)):=opI λi j _ _ _ _ _ hc q=>by
 exact mod_int' (by lia) (by rw[Int.fmod_eq_emod_of_nonneg i (by lia)];exact q)
theorem op_pow:OpR X (binaryOp .Pow) (rI CPow λi j=>.int (i^j.toNat)):=opI λ_ _ _ _ _ _ _ hc q=>pow_int_small hc.1 hc.2.1 hc.2.2 q
theorem op_shl:OpR X (binaryOp .LShift) (rI CPow λi j=>.int (i*2^j.toNat)):=opI λ_ _ _ _ _ _ _ hc q=>lshift_int_small hc.1 hc.2.1 hc.2.2 q
theorem op_shr:OpR X (binaryOp .RShift) (rI (λ_ j=>0<=j) λi j=>.int (i / 2^j.toNat)):=opI λi j _ _ _ _ _ hc q=>
 rshift_int hc (by rw[Int.fdiv_eq_ediv_of_nonneg i (two_pow_nn _)];exact q)
theorem op_and:OpR X (binaryOp .BitAnd) (rI0 λi j=>.int (Builtin.bitAnd i j)):=opI0 λ_ _ _ _ _ _ _ q=>and_int q
theorem op_or:OpR X (binaryOp .BitOr) (rI0 λi j=>.int (Builtin.bitOr i j)):=opI0 λ_ _ _ _ _ _ _ q=>or_int q
theorem unI {f:Value->Sem Value}{g:Int->Int}
  (rule:∀(i:Int) (t:Tok) (s:Shared) (Q:Value->Shared->Prop) (E:Value->Shared->Prop),Q (.int (g i) s.toks) {s with toks:=s.toks+1}->wpAny (model X.prog X.w) X.A (f (.int i t)) Q E s):
  UnR X f (rU λi=>.int (g i)):=by
 intro pins s O H x v Q I rx h
 obtain⟨i,rfl,q⟩:=h
 obtain⟨t,rfl⟩:=rx
 exact rule i t s _ _ ⟨.int (g i),H,I.tok _,⟨_,rfl⟩,q⟩
theorem un_neg:UnR X (unaryOp .USub) (rU λi=>.int (-i)):=unI λ_ _ _ _ _ q=>neg_int q
end
def scal:V->V->Bool
 | .non,.non=>true | .non,.int _=>true | .int _,.non=>true | .non,.bl _=>true | .bl _,.non=>true | .non,.str _=>true | .str _,.non=>true
 | .int _,.int _=>true | .bl _,.bl _=>true | .str _,.str _=>true | .byt _,.byt _=>true
 | .int _,.str _=>true | .str _,.int _=>true | .bl _,.str _=>true | .str _,.bl _=>true
 |_,_=>false
def rEq:R2:=λx y H Q=>scal x y=true/\Q (.bl (decide (x=y))) H
def rNe:R2:=λx y H Q=>scal x y=true/\Q (.bl (!decide (x=y))) H
theorem dec_int {i j:Int}:decide (V.int i=V.int j)=(i==j):=by
 rw[Bool.eq_iff_iff]
 simp
theorem dec_bl {i j:Bool}:decide (V.bl i=V.bl j)=(i==j):=by
 rw[Bool.eq_iff_iff]
 simp
theorem dec_str {i j:Str}:decide (V.str i=V.str j)=(i==j):=by
 rw[Bool.eq_iff_iff]
 simp
theorem dec_byt {i j:Array UInt8}:decide (V.byt i=V.byt j)=(i.toList==j.toList):=by
 rw[Bool.eq_iff_iff]
 cases i
 cases j
 simp
section
variable {X:Cx}{a b c:Expr}{ta tb tc:TE}{pos:Pos}
theorem fin_bl {pins:List (Addr×Obj)}{O:St}{H:Hp}{s:Shared}{Q:VK}{k k':Bool}(I:Inv X pins O H s)(q:Q (.bl k) H)(e:k=k'):EP X pins O Q (.bool k') s:=by
 subst e
 exact⟨.bl k,H,I,rfl,q⟩
theorem op_eq:OpR X (compareOp .Eq) rEq:=by
 intro pins s O H x y v u Q I rx ry h
 obtain⟨hs,q⟩:=h
 cases x with
 |non=>
  cases rx
  cases y with
  |non=>cases ry;exact PySem.EqNone.eq_none_none (fin_bl I q rfl)
  |bl j=>cases ry;exact PySem.EqNone.eq_none_bool (fin_bl I q rfl)
  |int j=>obtain⟨t',rfl⟩:=ry;exact PySem.EqNone.eq_none_int (fin_bl I q rfl)
  |str j=>obtain⟨t',rfl⟩:=ry;exact PySem.EqNone.eq_none_str (fin_bl I q rfl)
  |_=>exact absurd (show false=true from hs) Bool.false_ne_true
 |bl i=>
  cases rx
  cases y with
  |non=>cases ry;exact PySem.EqNone.eq_bool_none (fin_bl I q rfl)
  |bl j=>cases ry;exact eq_bool (fin_bl I q dec_bl)
  |str j=>obtain⟨t',rfl⟩:=ry;exact PySem.EqMixed.eq_bool_str (fin_bl I q rfl)
  |_=>exact absurd (show false=true from hs) Bool.false_ne_true
 |int i=>
  obtain⟨t,rfl⟩:=rx
  cases y with
  |non=>cases ry;exact PySem.EqNone.eq_int_none (fin_bl I q rfl)
  |int j=>obtain⟨t',rfl⟩:=ry;exact eq_int (fin_bl I q dec_int)
  |str j=>obtain⟨t',rfl⟩:=ry;exact PySem.EqMixed.eq_int_str (fin_bl I q rfl)
  |_=>exact absurd (show false=true from hs) Bool.false_ne_true
 |str i=>
  obtain⟨t,rfl⟩:=rx
  cases y with
  |non=>cases ry;exact PySem.EqNone.eq_str_none (fin_bl I q rfl)
  |bl j=>cases ry;exact PySem.EqMixed.eq_str_bool (fin_bl I q rfl)
  |int j=>obtain⟨t',rfl⟩:=ry;exact PySem.EqMixed.eq_str_int (fin_bl I q rfl)
  |str j=>obtain⟨t',rfl⟩:=ry;exact eq_str (fin_bl I q dec_str)
  |_=>exact absurd (show false=true from hs) Bool.false_ne_true
 |byt i=>
  obtain⟨t,rfl⟩:=rx
  cases y with
  |byt j=>obtain⟨t',rfl⟩:=ry;exact PySem.W.eq_bytes (fin_bl I q dec_byt)
  |_=>exact absurd (show false=true from hs) Bool.false_ne_true
 |_=>cases y<;>exact absurd (show false=true from hs) Bool.false_ne_true
theorem op_ne:OpR X (compareOp .NotEq) rNe:=by
 intro pins s O H x y v u Q I rx ry h
 obtain⟨hs,q⟩:=h
 cases x with
 |non=>
  cases rx
  cases y with
  |non=>cases ry;exact PySem.EqNone.ne_none_none (fin_bl I q rfl)
  |bl j=>cases ry;exact PySem.EqNone.ne_none_bool (fin_bl I q rfl)
  |int j=>obtain⟨t',rfl⟩:=ry;exact PySem.EqNone.ne_none_int (fin_bl I q rfl)
  |str j=>obtain⟨t',rfl⟩:=ry;exact PySem.EqNone.ne_none_str (fin_bl I q rfl)
  |_=>exact absurd (show false=true from hs) Bool.false_ne_true
 |bl i=>
  cases rx
  cases y with
  |non=>cases ry;exact PySem.EqNone.ne_bool_none (fin_bl I q rfl)
  |bl j=>cases ry;exact ne_bool (fin_bl I q (congrArg not dec_bl))
  |str j=>obtain⟨t',rfl⟩:=ry;exact PySem.EqMixed.ne_bool_str (fin_bl I q rfl)
  |_=>exact absurd (show false=true from hs) Bool.false_ne_true
 |int i=>
  obtain⟨t,rfl⟩:=rx
  cases y with
  |non=>cases ry;exact PySem.EqNone.ne_int_none (fin_bl I q rfl)
  |int j=>obtain⟨t',rfl⟩:=ry;exact ne_int (fin_bl I q (congrArg not dec_int))
  |str j=>obtain⟨t',rfl⟩:=ry;exact PySem.EqMixed.ne_int_str (fin_bl I q rfl)
  |_=>exact absurd (show false=true from hs) Bool.false_ne_true
 |str i=>
  obtain⟨t,rfl⟩:=rx
  cases y with
  |non=>cases ry;exact PySem.EqNone.ne_str_none (fin_bl I q rfl)
  |bl j=>cases ry;exact PySem.EqMixed.ne_str_bool (fin_bl I q rfl)
  |int j=>obtain⟨t',rfl⟩:=ry;exact PySem.EqMixed.ne_str_int (fin_bl I q rfl)
  |str j=>obtain⟨t',rfl⟩:=ry;exact ne_str (fin_bl I q (congrArg not dec_str))
  |_=>exact absurd (show false=true from hs) Bool.false_ne_true
 |byt i=>
  obtain⟨t,rfl⟩:=rx
  cases y with
  |byt j=>obtain⟨t',rfl⟩:=ry;exact PySem.W.ne_bytes (fin_bl I q (congrArg not dec_byt))
  |_=>exact absurd (show false=true from hs) Bool.false_ne_true
 |_=>cases y<;>exact absurd (show false=true from hs) Bool.false_ne_true
theorem op_lt:OpR X (compareOp .Lt) (rI0 λi j=>.bl (decide (i<j))):=opB0 λ_ _ _ _ _ _ _ q=>lt_int q
theorem op_le:OpR X (compareOp .LtE) (rI0 λi j=>.bl (decide (i<=j))):=opB0 λ_ _ _ _ _ _ _ q=>le_int q
theorem op_gt:OpR X (compareOp .Gt) (rI0 λi j=>.bl (decide (j<i))):=opB0 λ_ _ _ _ _ _ _ q=>gt_int q
theorem op_ge:OpR X (compareOp .GtE) (rI0 λi j=>.bl (decide (j<=i))):=opB0 λ_ _ _ _ _ _ _ q=>ge_int q
theorem op_notN:OpR X (compareOp .IsNot) (λx y H Q=>y = .non/\Q (.bl (!decide (x = .non))) H):=by
 intro pins s O H x y v u Q I rx ry h
 obtain⟨rfl,q⟩:=h
 cases ry
 refine isnot_none_gen (fin_bl I q ?_)
 cases x<;>first
  | (cases rx;rfl)
  | (obtain⟨t,rfl⟩:=rx;rfl)
theorem nomark (b:Expr){op:CmpOp}(h:op≠.In:=by decide)(h2:op≠.NotIn:=by decide):behindInMarks op b=false:=by
 have e1:(op==CmpOp.In)=false:=by cases op<;>first |rfl |exact absurd rfl h
 have e2:(op==CmpOp.NotIn)=false:=by cases op<;>first |rfl |exact absurd rfl h2
 cases b<;>simp[behindInMarks,e1,e2]
theorem pe_cmpR {op:CmpOp}{r:R2}(ho:OpR X (compareOp op) r)(ha:PE X a ta)(hb:PE X b tb)(hm:behindInMarks op b=false):PE X (.Compare a [op] [b] pos) (tOp r ta tb):=by
 intro pins s O H Q I h
 exact wpAny_Compare1 (binT ha hb I h λv u s2 x y H2 I2 rx ry q=>ho pins s2 O H2 x y v u Q I2 rx ry q) hm
def tTest (t:TE):TT:=λO H Q=>t O H λx H'=>∃k,x = .bl k/\Q k H'
theorem pt_cmpR {op:CmpOp}{r:R2}(ho:OpR X (compareOp op) r)(ha:PE X a ta)(hb:PE X b tb)(hm:behindInMarks op b=false):PT X (.Compare a [op] [b] pos) (tTest (tOp r ta tb)):=by
 intro pins s O H Q I h
 refine wpAny_isTrue_Compare1 (thn (ha pins s O H _ I h) λv s1 ⟨x,H1,I1,r1,q1⟩=>thn (hb pins s1 O H1 _ I1 q1) λu s2 ⟨y,H2,I2,r2,q2⟩=>
  thn (ho pins s2 O H2 x y v u _ I2 r1 r2 q2) λc s3 ⟨z,H3,I3,r3,k,e,q3⟩=>?_) hm
 subst e
 cases r3
 exact wpAny_truthy_bool ⟨H3,I3,q3⟩
def tChain (r r':R2)(ta tb tc:TE):TE:=λO H Q=>ta O H λx H1=>tb O H1 λy H2=>r x y H2 λz H3=>∃k,z = .bl k/\
 (if k=true then tc O H3 λw' H4=>r' y w' H4 Q else Q (.bl false) H3)
theorem pe_chain {op op':CmpOp}{r r':R2}(ho:OpR X (compareOp op) r)(ho':OpR X (compareOp op') r')(ha:PE X a ta)(hb:PE X b tb)(hc:PE X c tc)
  (hm:lastMarks [op,op'] [b,c]=false:=by with_unfolding_all rfl):PE X (.Compare a [op,op'] [b,c] pos) (tChain r r' ta tb tc):=by
 intro pins s O H Q I h
 refine Compare_chain (thn (ha pins s O H _ I h) λv s1 ⟨x,H1,I1,r1,q1⟩=>chain_link (thn (hb pins s1 O H1 _ I1 q1) λu s2 ⟨y,H2,I2,r2,q2⟩=>
  thn (ho pins s2 O H2 x y v u _ I2 r1 r2 q2) λd s3 ⟨z,H3,I3,r3,k,e,q3⟩=>?_)) hm
 subst e
 cases r3
 refine wpAny_truthy_bool ?_
 cases k with
 |false=>exact ite_ff ⟨.bl false,H3,I3,rfl,q3⟩
 |true=>exact ite_tt (chain_last (thn (hc pins s3 O H3 _ I3 q3) λw' s4 ⟨z',H4,I4,r4,q4⟩=>ho' pins s4 O H4 y z' u w' Q I4 r2 r4 q4))
theorem line63:(sizeLine:Nat)<2^63:=by rw[sizeLine_eq];decide
theorem vals1 {x:V}{us:List Value}(r:Vals [x] us):∃u,us=[u]/\RelV x u:=by
 cases r with
 |cons r1 r2=>cases r2;exact⟨_,rfl,r1⟩
theorem vals2 {x y:V}{us:List Value}(r:Vals [x,y] us):∃u w',us=[u,w']/\RelV x u/\RelV y w':=by
 cases r with
 |cons r1 r2=>
  cases r2 with
  |cons r3 r4=>cases r4;exact⟨_,_,rfl,r1,r3⟩
end
structure ObjM (h:Heap) (x dx C:Addr) (mA:Str->Option Value):Prop where
 obj:h.get? x=some (instObj C dx)
 ns:h.Ns1 dx mA
 ne:dx≠x
theorem lookIn_ns {h:Heap}{dx:Addr}{mA:Str->Option Value}(n:h.Ns1 dx mA):∃od,h.get? dx=some od/\∀name,lookIn name od=some (mA name):=by
 obtain⟨o,es,ep,ho,hd,hk,_,hm⟩:=n
 refine⟨o,ho,λname=>?_⟩
 have e:=hm name
 unfold nsFind findBy at e
 rw[<- Array.find?_toList]at e
 unfold lookIn
 rw[hd]
 dsimp only
 split
 .rename_i y q
  rw[q]at e
  exact congrArg some e
 .rename_i q
  rw[q]at e
  have a:es.toList.any (·.refKey)=false:=by
   rw[List.any_eq_false]
   intro y hy
   obtain⟨z,t,hkey⟩:=hk y (Array.mem_toList_iff.mp hy)
   simp[DictEntry.refKey,hkey]
  have a':¬ es.toList.any (·.refKey)=true:=by rw[a];exact Bool.false_ne_true
  rw[if_neg a']
  exact congrArg some e
theorem ObjM.look {h:Heap}{x dx C:Addr}{mA:Str->Option Value}(I:ObjM h x dx C mA):∃od,PySem.W.InstAt h x (instObj C dx) C (some od)/\∀name,lookIn name od=some (mA name):=
 let⟨od,ho,hl⟩:=lookIn_ns I.ns
 ⟨od,⟨I.obj,rfl,rfl,ho⟩,hl⟩
section
variable {prog:Program}{w:World}{A:Around}{E:Value->Shared->Prop}{s:Shared}{K:Frag}{x dx C f:Addr}{mA:Str->Option Value}{name:Str}{v:Value}
end
section
variable {P:Program}{w:World}{H H':Hp}{h h':Heap}{a C dx:Addr}{fs fs':List (Str×V)}
theorem ins_get (hok:HOk P w H h)(e:H a=some (.ins C dx fs)):∃mA,ObjM h a dx C mA/\(∀f,RelO (fs.lookup f) (mA f))/\PySem.Within mA (fs.map (·.1))/\fs.length<=1000/\H dx=some (.own a):=by
 obtain⟨d,z,ne,ob,mA,n,r,q⟩:=(show ObjOk P w H h a (.ins C dx fs) from hok a _ e)
 exact⟨mA,⟨ob,n,ne⟩,r,q,z,d⟩
end
structure Cls (K:Frag) (C:Addr):Prop where
 pg:plainGet K C Str.empty=true
 hd:PySem.W.hasDictIn K C=true
 po:PySem.W.plainOver K C=true
 sa:findIn K (.ref C) "__setattr__"=some (some (.builtin "object.__setattr__"))
theorem Cls.get {K:Frag}{C:Addr}(c:Cls K C)(f:Str):plainGet K C f=true:=c.pg
section
variable {X:Cx}{pins:List (Addr×Obj)}{O:St}{H:Hp}{s:Shared}{a C dx:Addr}{fs:List (Str×V)}{f:Str}{v:V}{A:Around}{E:Value->Shared->Prop}
end
section
variable {X:Cx}{o e value:Expr}{f:Str}{pos pos' tpos:Pos}{ta tv:TE}
end
section
variable {X:Cx}{pins:List (Addr×Obj)}{O:St}{H:Hp}{s:Shared}{A:Around}{E:Value->Shared->Prop}{Q:Value->Shared->Prop}{c:Value}{b:Bool}
inductive TyOf (K:Frag) (H:Hp):V->Value->Prop where
 |non:TyOf K H .non (.type "NoneType")
 |bl (x:Bool):TyOf K H (.bl x) (.type "bool")
 |int (i:Int):TyOf K H (.int i) (.type "int")
 |str (x:Str):TyOf K H (.str x) (.type "str")
 |flt (x:UInt64):TyOf K H (.flt x) (.type "float")
 |lst {a:Addr} {xs:List V} (e:H a=some (.lst xs)):TyOf K H (.ref a) (.type "list")
 |frz {a:Addr} {o:Obj} {xs:List V} (e:H a=some (.frz o (.lst xs))):TyOf K H (.ref a) (.type "list")
 |tup {a:Addr} {xs:List V} (e:H a=some (.tup xs)):TyOf K H (.ref a) (.type "tuple")
 |dK {a:Addr} {kvs:List (Key×V)} (e:H a=some (.dK kvs)):TyOf K H (.ref a) (.type "dict")
 |dT {a:Addr} {kvs:List (List Key×V)} (e:H a=some (.dT kvs)):TyOf K H (.ref a) (.type "dict")
 |ins {a C dx:Addr} {fs:List (Str×V)} (e:H a=some (.ins C dx fs)) (cl:Cls K C) (ha:findIn K (.ref C) "__class__"=some (some (.builtin "object.__class__")))
   (hn:PySem.W.specialIn K (.builtin "object.__class__") "__get__"=some (some (.builtin "getset_descriptor.__get__"))) (htk:PySem.W.takesIn K (.builtin "object.__class__")=some true)
   (hm:PySem.W.mroIn K C (.type "object")=some true):TyOf K H (.ref a) (.ref C)
theorem isinst_ok {x:V}{u t:Value}(I:Inv X pins O H s)(rx:RelV x u)(ty:TyOf X.K H x t)(e:kitOne X.K t c=some b)(h:∀tk,Q (.bool b) {s with toks:=tk}):
  wpAny (model X.prog X.w) A (call (.builtin "isinstance") [u,c]) Q E s:=by
 cases ty with
 |non=>cases (show u=Value.none from rx);exact kia_one PySem.W.kitx_none I.kIn True.intro e (λz=>nomatch z) h
 |bl y=>cases (show u=Value.bool y from rx);exact kia_one PySem.W.kitx_bool I.kIn True.intro e (λz=>nomatch z) h
 |int i=>obtain⟨t,q⟩:=(show ∃t,u=Value.int i t from rx);cases q;exact kia_one PySem.W.kitx_int I.kIn True.intro e (λz=>nomatch z) h
 |str y=>obtain⟨t,q⟩:=(show ∃t,u=Value.str y t from rx);cases q;exact kia_one PySem.W.kitx_str I.kIn True.intro e (λz=>nomatch z) h
 |flt y=>obtain⟨t,q⟩:=(show ∃t,u=Value.float y t from rx);cases q;exact kia_one PySem.W.kitx_float I.kIn True.intro e (λz=>nomatch z) h
 | @lst a xs ea=>
  cases (show u=Value.ref a from rx)
  obtain⟨_,_,n,_,h1⟩:=(show ObjOk X.prog X.w H s.heap a (.lst xs) from I.hok a _ ea)
  exact kia_one kitx_list I.kIn ⟨_,h1,rfl⟩ e (λz=>nomatch z) h
 | @frz a ob xs ea=>
  cases (show u=Value.ref a from rx)
  obtain⟨_,_,_,n,_,h1⟩:=(show ObjOk X.prog X.w H s.heap a (.frz ob (.lst xs)) from I.hok a _ ea)
  exact kia_one kitx_list I.kIn ⟨_,h1,rfl⟩ e (λz=>nomatch z) h
 | @tup a xs ea=>
  cases (show u=Value.ref a from rx)
  obtain⟨_,_,_,p⟩:=(show ObjOk X.prog X.w H s.heap a (.tup xs) from I.hok a _ ea)
  obtain⟨o,h1,h2,_⟩:=p
  exact kia_one kitx_tuple I.kIn ⟨o,h1,h2⟩ e (λz=>nomatch z) h
 | @dK a kvs ea=>
  cases (show u=Value.ref a from rx)
  obtain⟨_,_,vs,_,p⟩:=(show ObjOk X.prog X.w H s.heap a (.dK kvs) from I.hok a _ ea)
  obtain⟨o,es,ep,h1,h2,_⟩:=p
  exact kia_one kitx_dict I.kIn ⟨o,h1,h2.1⟩ e (λz=>nomatch z) h
 | @dT a kvs ea=>
  cases (show u=Value.ref a from rx)
  obtain⟨_,_,xs,_,o,es,ep,h1,h2,_⟩:=(show ObjOk X.prog X.w H s.heap a (.dT kvs) from I.hok a _ ea)
  exact kia_one kitx_dict I.kIn ⟨o,h1,h2.1⟩ e (λz=>nomatch z) h
 | @ins a C dx fs ea cl ha hn htk hm=>
  cases (show u=Value.ref a from rx)
  obtain⟨mA,σ,_⟩:=ins_get I.hok ea
  obtain⟨od,J,_⟩:=σ.look
  exact kia_one (PySem.W.kitx_own (cl.get _) cl.hd ha hn htk hm) I.kIn J e (λz=>nomatch z) h
end
structure Room (k:Nat) (A:Around):Prop where
 hd:A.handled=none
 dp:A.depth+3*k+5<recursionLimit
 un:A.units+16*k+200<cLine
theorem Room.mono {j k:Nat}{A:Around}(r:Room k A)(h:j<=k):Room j A:=⟨r.hd,by have:=r.dp;lia,by have:=r.un;lia⟩
theorem Room.deeper {k:Nat}{A:Around}(r:Room (k+1) A)(env:Env):Room k (A.deeper env):=
 ⟨r.hd,by have:=r.dp;show A.depth+1+3*k+5<_;lia,by have:=r.un;show A.units+3+16*k+200<_;lia⟩
theorem Room.depth {k:Nat}{A:Around}(r:Room k A):A.depth<recursionLimit:=by have:=r.dp;lia
theorem Room.units {k:Nat}{A:Around}(r:Room k A):A.units+64<cLine:=by have:=r.un;lia
def tNil:TA:=λ_ H Q=>Q [] H
def tCons (ta:TE)(tr:TA):TA:=λO H Q=>ta O H λx H1=>tr O H1 λxs H2=>Q (x::xs) H2
section
variable {X:Cx}{e:Expr}{es:List Expr}{te:TE}{t:TA}{pos:Pos}
theorem pa_nil:PA X [] tNil:=λ_ _ _ _ H Q I h=>Calls.spliced_nil ⟨[],H,I,.nil,h⟩
theorem pa_cons (ha:PE X e te)(hr:PA X es t)(hs:starEach (e::es) X.env=(false,eval e X.env)::starEach es X.env:=by rfl):PA X (e::es) (tCons te t):=by
 intro pos pins s O H Q I h
 rw[hs]
 refine Calls.spliced_cons (thn (ha pins s O H _ I h) λu s1 ⟨x,H1,I1,r1,q1⟩=>?_)
 exact thn (hr pos pins s1 O H1 _ I1 q1) λus s2 ⟨xs,H2,I2,r2,q2⟩=>⟨x::xs,H2,I2,.cons r1 r2,q2⟩
end
abbrev Sp:=List V->Hp->VK->XK->Prop
abbrev CXT:=List Env->Hp->Shared->XK->Value->Shared->Prop
structure Env0 (P:Program) (w:World) (K:Frag) (mg:Str->Option Value) (base:Heap) (A:Around) (outer:List Env) (s:Shared) (H:Hp):Prop where
 frames:A.frames=some outer
 mod:Mod K mg base
 bs:∀b o,base.get? b=some o->s.heap.get? b=some o/\H b=none
 bsz:base.objs.size<=s.heap.objs.size
 funs:s.heap.FunFrames base outer
 frf:∀b∈frs outer,H b=none
 hok:HOk P w H s.heap
 bare:AllBare s.gens
def CE (outer:List Env)(P:Program)(w:World)(H:Hp)(s:Shared)(Q:VK)(u:Value)(s':Shared):Prop:=
 ∃v H',s'.os=s.os/\AllBare s'.gens/\Un (frs outer) [] H H' s.heap s'.heap/\HOk P w H' s'.heap/\RelV v u/\Q v H'
def CR (CX:CXT)(outer:List Env)(P:Program)(w:World)(H:Hp)(s:Shared)(Q:VK)(E:XK)(r:Result)(s':Shared):Prop:=
 match r with
 | .ok (.ret u)=>CE outer P w H s Q u s'
 | .ok _=>False
 | .error e=>CX outer H s E e s'
structure FnOk (P:Program) (w:World) (K:Frag) (mg:Str->Option Value) (base:Heap) (CX:CXT) (k:Nat) (f:Addr) (fd:FuncData) (ps:List Str) (sp:Sp):Prop where
 len:∀vs H Q E,sp vs H Q E->vs.length=ps.length
 run:∀(A:Around) (outer:List Env) (s:Shared) (H:Hp) (args:Args) (us:List Value) (vs:List V) (Q:VK) (E:XK),Room k A->Env0 P w K mg base A outer s H->BindsTo s fd args (ps.zip us)->Vals vs us->sp vs H Q E->
  codeAny (model P w) A (.call (.ref f) args) (CR CX outer P w H s Q E) s
theorem FnOk.mono {P:Program}{w:World}{K:Frag}{mg:Str->Option Value}{base:Heap}{CX:CXT}{j k:Nat}{f:Addr}{fd:FuncData}{ps:List Str}{sp:Sp}(F:FnOk P w K mg base CX j f fd ps sp)(h:j<=k):
  FnOk P w K mg base CX k f fd ps sp:=⟨F.len,λA outer s H args us vs Q E hr=>F.run A outer s H args us vs Q E (hr.mono h)⟩
section
variable {X:Cx}{pins:List (Addr×Obj)}{O:St}{H:Hp}{s s':Shared}
theorem Inv.env0 (I:Inv X pins O H s):Env0 X.prog X.w X.K X.mg X.base X.A X.stack s H:=
 ⟨I.ok.frames,I.ok.mod,I.bs,Nat.le_trans I.ok.bsz I.sz,I.stack,I.stkFree,I.hok,I.bare⟩
theorem Inv.after {Q:VK}{u:Value}(I:Inv X pins O H s)(h:CE X.stack X.prog X.w H s Q u s'):EP X pins O Q u s':=by
 obtain⟨v,H',os,bare,un,hok,r,q⟩:=h
 obtain⟨hh,g,d,t,os'⟩:=s'
 obtain rfl:os'=s.os:=os
 exact⟨v,H',I.call (h':=hh) (g':=g) (d':=d) (t':=t) (ch:=[]) un hok bare (λb z=>absurd z (by simp)),r,q⟩
end
def tCall (sp:Sp)(dvs:List V)(E:XK)(t:TA):TE:=λO H Q=>t O H λvs H1=>sp (vs++dvs) H1 Q E
def Binds (K:Frag)(fd:FuncData)(ps:List Str)(ds:List Value):Prop:=
 ∀(s:Shared) (us:List Value),K.In s.heap->(us++ds).length=ps.length->BindsTo s fd ⟨us,[]⟩ (ps.zip (us++ds))
theorem Binds.all {K:Frag}{fd:FuncData}{ps:List Str}(h:∀us:List Value,us.length=ps.length->bindArgs fd ⟨us,[]⟩=pure (ps.zip us)):Binds K fd ps []:=λs us _ hl=>by
 rw[append_nil]at hl ⊢
 exact .of_eq (h us hl)
def Passes (CX:CXT)(X:Cx)(E:XK):Prop:=∀(pins:List (Addr×Obj)) (O:St) (H:Hp) (s:Shared) (e:Value) (s':Shared),Inv X pins O H s->CX X.stack H s E e s'->X.xe e s'
section
variable {X:Cx}{CX:CXT}{k:Nat}{f C:Addr}{fd:FuncData}{ps:List Str}{sp:Sp}{dvs:List V}{ds:List Value}{E:XK}{x m:Str}{p pos apos:Pos}{e o:Expr}{es:List Expr}{ta:TE}{t:TA}
theorem run_fn {pins:List (Addr×Obj)}{O:St}{H:Hp}{s:Shared}{Q:VK}{us:List Value}{vs:List V}(F:FnOk X.prog X.w X.K X.mg X.base CX k f fd ps sp)(hr:Room k X.A)(hb:Binds X.K fd ps ds)(hd:Vals dvs ds)(hx:Passes CX X E)
  (I:Inv X pins O H s) (r:Vals vs us) (h:sp (vs++dvs) H Q E):wpAny (model X.prog X.w) X.A (call (.ref f) us) (EP X pins O Q) X.xe s:=by
 have r2:Vals (vs++dvs) (us++ds):=r.append hd
 have hl:(us++ds).length=ps.length:=by rw[<- r2.length];exact F.len _ _ _ _ h
 refine wpAny_call (codeAny_mono (F.run X.A X.stack s H ⟨us,[]⟩ (us++ds) (vs++dvs) Q E hr I.env0 (hb s us I.kIn hl) r2 h) λr s' hq=>?_)
 cases r with
 |error e=>exact hx pins O H s e s' I hq
 |ok fl=>
  cases fl with
  |ret u=>exact I.after hq
  |next=>exact False.elim hq
  |brk=>exact False.elim hq
  |cont=>exact False.elim hq
theorem pe_call (F:FnOk X.prog X.w X.K X.mg X.base CX k f fd ps sp)(hr:Room k X.A)(hg:Gl X x)(hm:X.mg x=some (.ref f))(hk:keepIn X.K (.ref f)=true)(hb:Binds X.K fd ps ds)(hd:Vals dvs ds)(hx:Passes CX X E)
  (ha:PA X (e::es) t) (hdb:(x==("__debug__":Str))=false:=by decide) (he:starEach (e::es) X.env=(false,eval e X.env)::starEach es X.env:=by rfl) (hpl:(backTo pos (starEach es X.env)).any (·.1)=false:=by rfl):
  PE X (.Call (.Name x p) (e::es) [] pos) (tCall sp dvs E t):=by
 intro pins s O H Q I h
 refine wpAny_Call_Name_kw (ld_glob I hg hm ?_ hdb)
 refine callWith_K I.ok.mod.kin hk (thn (ha pos pins s O H _ I h) λus s1 ⟨vs,H1,I1,r,q⟩=>⟨I1.kIn,?_⟩) he hpl
 exact run_fn F hr hb hd hx I1 r q
end
section
variable {X:Cx}{CX:CXT}{k:Nat}{f C:Addr}{fd:FuncData}{ps ks:List Str}{sp:Sp}{E:XK}{x m:Str}{p pos apos kpos:Pos}{e o:Expr}{es:List Expr}{kws:List Keyword}{te ta:TE}{t tk:TA}{nm:Option Str}
variable {g:List Value->List Value->List Value}{gV:List V->List V->List V}
end
structure FnScope (N P:List Str) (sc:Scope):Prop where
 kind:sc.kind = .function
 co:sc.isCoroutine=false
 gen:sc.isGenerator=false
 nd:N.Nodup
 pre:N.take P.length=P
 par:∀x∈P,sc.names.lookup x=some .local∨sc.names.lookup x=some .cell
 nofree:∀y∈sc.names,y.2≠.free
theorem bindL_out {kindOf:Str->Option NameKind}{x:Str}:∀{binds:List (Str×Value)} {m:Str->Option Value},(∀v,(x,v)∉binds)->bindL kindOf binds m x=m x
 | [],_,_=>rfl
 | (n,v)::r,m,h=>by
  unfold bindL
  rw[bindL_out λw hw=>h w (mem_cons_of_mem _ hw)]
  split
  .have:x≠n:=by rintro rfl;exact h v mem_cons_self
   simp[this]
  .rfl
theorem bindC_out {kindOf:Str->Option NameKind}{x:Str}:∀{binds:List (Str×Value)} {m:Str->Option Value},(∀v,(x,v)∉binds)->bindC kindOf binds m x=m x
 | [],_,_=>rfl
 | (n,v)::r,m,h=>by
  unfold bindC
  rw[bindC_out λw hw=>h w (mem_cons_of_mem _ hw)]
  split
  .rfl
  .have:x≠n:=by rintro rfl;exact h v mem_cons_self
   simp[this]
theorem bindL_get {kindOf:Str->Option NameKind}{x:Str}{v:Value}:∀{P:List Str} {vs:List Value} {i:Nat} {m:Str->Option Value},P.Nodup->P[i]?=some x->vs[i]?=some v->kindOf x=some .local->
  bindL kindOf (P.zip vs) m x=some v
 | [],_,_,_,_,h,_,_=>by simp at h
 |_::_,[],_,_,_,_,h,_=>by simp at h
 |p::P,w::vs,0,m,nd,h1,h2,hk=>by
  simp at h1 h2;subst h1;subst h2
  show bindL kindOf ((p,w)::P.zip vs) m p=_
  unfold bindL
  rw[bindL_out λv hv=>(nodup_cons.mp nd).1 (of_mem_zip hv).1,if_pos hk]
  simp
 |p::P,w::vs,i+1,m,nd,h1,h2,hk=>by
  unfold bindL
  exact bindL_get (nodup_cons.mp nd).2 h1 h2 hk
theorem bindC_get {kindOf:Str->Option NameKind}{x:Str}{v:Value}:∀{P:List Str} {vs:List Value} {i:Nat} {m:Str->Option Value},P.Nodup->P[i]?=some x->vs[i]?=some v->kindOf x≠some .local->
  bindC kindOf (P.zip vs) m x=some v
 | [],_,_,_,_,h,_,_=>by simp at h
 |_::_,[],_,_,_,_,h,_=>by simp at h
 |p::P,w::vs,0,m,nd,h1,h2,hk=>by
  simp at h1 h2;subst h1;subst h2
  show bindC kindOf ((p,w)::P.zip vs) m p=_
  unfold bindC
  rw[bindC_out λv hv=>(nodup_cons.mp nd).1 (of_mem_zip hv).1,if_neg hk]
  simp
 |p::P,w::vs,i+1,m,nd,h1,h2,hk=>by
  unfold bindC
  exact bindC_get (nodup_cons.mp nd).2 h1 h2 hk
def start (N:List Str)(vs:List V):St:=vs.map some++List.replicate (N.length-vs.length) none
def cxOf (CX:CXT)(P:Program)(w:World)(K:Frag)(mg:Str->Option Value)(base:Heap)(N:List Str)(qual:Str)(scope:Scope)(f:Addr)(cd:Value)(A:Around)(outer:List Env)(s:Shared)(H:Hp)(E:XK):Cx where
 prog:=P
 w:=w
 K:=K
 mg:=mg
 base:=base
 A:=A.deeper (envOfC qual scope s.heap.objs.size f cd)
 N:=N
 s₀:=s
 H₀:=H
 env:=envOfC qual scope s.heap.objs.size f cd
 outer:=outer
 stack:=envOfC qual scope s.heap.objs.size f cd::outer
 ex:=[]
 calm:=true
 fn:=λ_=>true
 pn:=[]
 xe:=λe s'=>wpAny (model P w) (A.deeper (envOfC qual scope s.heap.objs.size f cd)) (leaving (envOfC qual scope s.heap.objs.size f cd) e) (λ_ s''=>CX outer H s E e s'') (λe' s''=>CX outer H s E e' s'') s'
theorem cell_has {sc:Scope}{n:Nat}{x:Str}(h:sc.names.lookup x=some .cell):∃c,(cellsFrom n sc.names []).lookup x=some c:=by
 have q:=PySem.W.cellsFrom_some sc.names n [] (.inl h)
 exact Option.isSome_iff_exists.mp q
theorem inv_start {CX:CXT}{P:Program}{w:World}{K:Frag}{mg:Str->Option Value}{base:Heap}{N ps:List Str}{qual:Str}{scope:Scope}{f:Addr}{cd:Value}{A:Around}{outer:List Env}{s s1:Shared}{H:Hp}{E:XK}{us:List Value}{vs:List V}
  (S:FnScope N ps scope) (hd:A.handled=none) (e0:Env0 P w K mg base A outer s H) (hl:vs.length=ps.length) (r:Vals vs us)
  (x:InCallC s s.heap.objs.size (bindL (envOfC qual scope s.heap.objs.size f cd).kindOf (ps.zip us) λ_=>none) (cellsFrom (s.heap.objs.size+1) scope.names []) (bindC (envOfC qual scope s.heap.objs.size f cd).kindOf (ps.zip us) λ_=>none) s1):
  Inv (cxOf CX P w K mg base N qual scope f cd A outer s H E) [] (start N vs) H s1:=by
 have hpl:ps.length<=N.length:=by have:=congrArg List.length S.pre;rw[length_take]at this;lia
 obtain⟨h1,tk,rfl,hk⟩:=x.done
 have noA:∀b:Addr,b∉(cxOf CX P w K mg base N qual scope f cd A outer s H E).ex:=λb z=>absurd (show b∈([]:List Addr) from z) (by simp)
 refine⟨⟨e0.mod,S.kind,rfl,rfl,Nat.le_refl _,λy z c h1 h2=>?_,λy hy=>?_,λy c _ h=>?_,λ_=>hd,Around.frames_deeper e0.frames,.inr ⟨rfl,rfl⟩,λb z=>absurd z (noA b),e0.bs,e0.bsz,λb _ _=>noA b,λb z=>absurd z (noA b),e0.funs,e0.frf⟩,
  rfl,e0.bare,Un.kept hk,⟨_,x.toInCall.ns,λi y v h1 h2 h3=>?_⟩,λy c h=>⟨_,x.cell y c h⟩,e0.hok.fresh (Nat.le_refl _),λy c h=>?_,λp hp=>absurd (show p∈([]:List (Addr×Obj)) from hp) (by simp),e0.hok.kept hk,?_⟩
 .exact name_of_addr x.apart (PySem.mem_of_lookup h1) (PySem.mem_of_lookup h2)
 .rcases hy with hy |hy
  .exact cell_has hy
  .exact absurd rfl (S.nofree _ (PySem.mem_of_lookup hy))
 .exact Nat.le_of_lt (x.above y c (PySem.mem_of_lookup h))
 .have hi:i<vs.length:=by
   unfold start at h2
   by_cases hi:i<vs.length
   .exact hi
   .rw [getElem?_append_right (by simpa using hi)]at h2
    rw[List.getElem?_replicate]at h2
    split at h2<;>cases h2
  have ha:vs[i]?=some v:=by
   unfold start at h2
   rw[getElem?_append_left (by simpa using hi),getElem?_map]at h2
   cases e:vs[i]? with
   |none=>rw[e]at h2;cases h2
   |some a=>rw[e]at h2;cases h2;rfl
  obtain⟨u,hu,rv⟩:=r.get ha
  have hp:ps[i]?=some y:=by
   rw[<- S.pre,List.getElem?_take_of_lt (by lia)];exact h1
  have ndP:ps.Nodup:=by rw[<- S.pre];exact S.nd.sublist (List.take_sublist _ _)
  refine⟨u,rv,?_⟩
  rcases S.par y (mem_of_getElem? hp) with k |k
  .exact .inl ⟨k,bindL_get ndP hp hu k⟩
  .obtain ⟨c,e⟩:=cell_has (n:=s.heap.objs.size+1) k
   refine .inr ⟨.inl k,c,e,?_⟩
   have q:=x.cell y c e
   rw[bindC_get ndP hp hu (by show scope.names.lookup y≠_;rw[k];decide)]at q
   exact q
 .exact e0.hok.fresh (Nat.le_of_lt (x.above y c (PySem.mem_of_lookup h)))
 .unfold start
  show _=N.length
  rw[length_append,length_map,List.length_replicate]
  lia
theorem fn_of {CX:CXT}{P:Program}{w:World}{K:Frag}{mg:Str->Option Value}{base:Heap}{k:Nat}{f:Addr}{name qual:Str}{params:Arguments}{body:List Stmt}{scope:Scope}{dV kV doc pm cdv ct oc:Value}{an od:Option Addr}
  {osl:Array (Option Value)} {N ps:List Str} {sp:Sp} (lk:K.lookup f=some ⟨oc,od,.func (fnOf name qual params body scope dV kV doc pm an cdv ct),osl⟩) (hcd:codeIn K cdv qual=true) (S:FnScope N ps scope)
  (len:∀vs H Q E,sp vs H Q E->vs.length=ps.length)
  (hbody:∀(A:Around) (outer:List Env) (s:Shared) (H:Hp) (vs:List V) (Q:VK) (E:XK),Room k (A.deeper (envOfC qual scope s.heap.objs.size f cdv))->sp vs H Q E->
   ∃t,PSs (cxOf CX P w K mg base N qual scope f cdv A outer s H E) body t/\t {nx:=λ_ H'=>Q .non H',rt:=Q} (start N vs) H):
  FnOk P w K mg base CX (k+1) f (fnOf name qual params body scope dV kV doc pm an cdv ct) ps sp:=by
 refine⟨len,λA outer s H args us vs Q E hr e0 hb r hsp=>?_⟩
 have hl:=len _ _ _ _ hsp
 have KX:K.In s.heap:=e0.mod.kin.keeps λb o e=>(e0.bs b o e).1
 have lim:s.heap.NoLimit:=e0.mod.nolimit.keeps λb o e=>(e0.bs b o e).1
 have hkind:∀y∈ps.zip us,scope.names.lookup y.1=some .local∨(scope.names.lookup y.1=some .cell/\((cellsFrom (s.heap.objs.size+1) scope.names []).lookup y.1).isSome=true):=λ⟨n,v⟩ hy=>by
  rcases S.par n (of_mem_zip hy).1 with q |q
  .exact .inl q
  .exact .inr ⟨q,PySem.W.cellsFrom_some _ _ _ (.inl q)⟩
 refine codeAny_call_function hr.depth (KX _ _ lk) rfl S.co S.gen rfl (PySem.W.codeRec_of KX hcd) (hb _ _ _ _ ?_)
 refine wpAny_newFunctionEnv_cells S.kind hkind λenv he s1 x=>?_
 subst he
 refine⟨lim.keeps x.toInCall.keep,codeAny_func ?_⟩
 obtain⟨t,ht,hq⟩:=hbody A outer s H vs Q E (hr.deeper _) hsp
 have I:Inv (cxOf CX P w K mg base N qual scope f cdv A outer s H E) [] (start N vs) H s1:=inv_start S hr.hd e0 hl r x
 refine wpAny_mono (ht [] s1 (start N vs) H _ I hq) (λfl s' hs=>?_) λe s' hs=>hs
 have fin:∀{O':St} {H':Hp} {v:V} {u:Value},Inv (cxOf CX P w K mg base N qual scope f cdv A outer s H E) [] O' H' s'->RelV v u->Q v H'->CE outer P w H s Q u s':=
  λ{O' H' v u} J rv q=>⟨v,H',J.os,J.bare,J.base,J.hok,rv,q⟩
 cases fl with
 |ret u=>
  obtain⟨v,O',H',J,rv,q⟩:=hs
  exact fin J rv q
 |next=>
  obtain⟨O',H',J,q⟩:=hs
  exact fin (v:=V.non) J rfl q
 |brk=>
  obtain⟨_,_,_,q⟩:=hs
  exact False.elim q
 |cont=>
  obtain⟨_,_,_,q⟩:=hs
  exact False.elim q
section
variable {X:Cx}{x:Str}{p pos:Pos}{e:Expr}{es:List Expr}{t:TA}{id T:String}{r:List V->Hp->VK->Prop}
def tCB (r:List V->Hp->VK->Prop)(t:TA):TE:=λO H Q=>t O H λvs H1=>r vs H1 Q
theorem pe_callB (hc:CallR X (.builtin id) r)(hg:Gl X x)(hm:X.mg x=none)(hv:bootBuiltins x=some (.builtin id))(ha:PA X (e::es) t)(hn:x ≠ "__name__":=by decide)(hdb:(x==("__debug__":Str))=false:=by decide)
  (he:starEach (e::es) X.env=(false,eval e X.env)::starEach es X.env:=by rfl) (hpl:(backTo pos (starEach es X.env)).any (·.1)=false:=by rfl):PE X (.Call (.Name x p) (e::es) [] pos) (tCB r t):=by
 intro pins s O H Q I h
 refine wpAny_Call_Name_kw (ld_blt I hg hm hv ?_ hn hdb)
 exact PyProof.Rows.callWith_builtin1 (thn (ha pos pins s O H _ I h) λus s1 ⟨vs,H1,I1,r1,q1⟩=>hc pins s1 O H1 vs us Q I1 r1 q1) he hpl
theorem pe_callTy (hc:CallR X (.type T) r)(hg:Gl X x)(hm:X.mg x=none)(hv:bootBuiltins x=some (.type T))(ha:PA X (e::es) t)(hn:x ≠ "__name__":=by decide)(hdb:(x==("__debug__":Str))=false:=by decide)
  (he:starEach (e::es) X.env=(false,eval e X.env)::starEach es X.env:=by rfl) (hpl:(backTo pos (starEach es X.env)).any (·.1)=false:=by rfl):PE X (.Call (.Name x p) (e::es) [] pos) (tCB r t):=by
 intro pins s O H Q I h
 refine wpAny_Call_Name_kw (ld_blt I hg hm hv ?_ hn hdb)
 exact PyProof.Rows.callWith_type1 (thn (ha pos pins s O H _ I h) λus s1 ⟨vs,H1,I1,r1,q1⟩=>hc pins s1 O H1 vs us Q I1 r1 q1) he hpl
end
end L2
namespace HT
open PySem PyProof.Rows
def lexLt:List Int->List Int->Bool
 | [],[]=>false
 | [],_::_=>true
 |_::_,[]=>false
 |x::xs,y::ys=>if x=y then lexLt xs ys else decide (x<y)
theorem lexLt_cons (x y:Int)(xs ys:List Int):lexLt (x::xs) (y::ys)=if x=y then lexLt xs ys else decide (x<y):=rfl
section
open PySem.SeqAt
open PySem.AutoSeq1 (wpAny_loadPart')
open PySem.MeetsSeq PySem.MeetsSeq2 PySem.MeetsSeq3
end
section
variable {prog:Program}{w:World}{A:Around}{E:Value->Shared->Prop}{s:Shared}
theorem cat_tup {t b:Addr}{vs ws:List Value}{Q:Value->Shared->Prop}(ht:IsTup s.heap t vs.toArray)(hb:IsTup s.heap b ws.toArray)(hv:vs≠[])
  (h1:ws=[]->Q (.ref t) s) (h2:ws≠[]->Q (.ref s.heap.objs.size) {s with heap:=s.heap.push {cls:=.type "tuple",data:=.seq (vs++ws).toArray}})
  (hsz:vs.length+ws.length<=sizeLine):wpAny (model prog w) A (binaryOp .Add (.ref t) (.ref b)) Q E s:=by
 obtain⟨⟨cls,dd,data,sl⟩,ho,hc,n,hd⟩:=id ht
 obtain⟨⟨cls2,dd2,data2,sl2⟩,ho2,hc2,n2,hd2⟩:=id hb
 simp only at hc hd hc2 hd2
 subst hc hd hc2 hd2
 have e:vs.toArray++ws.toArray=(vs++ws).toArray:=by simp
 by_cases hw:ws=[]
 .exact concat_meets ⟨_,ho,rfl⟩ ⟨_,ho2,rfl⟩ noFill_tuple_add seq_tuple_add PySem.F.slot_tuple_add PySem.F.entry_tuple_add (PySem.F.args_tuple_add_2 _ _)
   (tuple_addW1 t b vs.toArray ws.toArray n n2 dd dd2 sl sl2 (by simpa using hv) (by simp[hw])) ⟨ho,ho2,h1 hw⟩
 .refine concat_meets ⟨_,ho,rfl⟩ ⟨_,ho2,rfl⟩ noFill_tuple_add seq_tuple_add PySem.F.slot_tuple_add PySem.F.entry_tuple_add (PySem.F.args_tuple_add_2 _ _)
   (tuple_addW2 t b vs.toArray ws.toArray n n2 dd dd2 sl sl2 (by simpa using hv) (by simpa using hw) (by rw[size_toArray,size_toArray];exact hsz)) ⟨ho,ho2,?_⟩
  rw[e]
  exact h2 hw
def sIx (n d:Nat):Option Int->Nat
 |none=>d
 |some v=>if v<0 then (v+(n:Int)).toNat else min v.toNat n
theorem sIx_nat (n d k:Nat):sIx n d (some (k:Int))=min k n:=by
 show (if (k:Int)<0 then ((k:Int)+(n:Int)).toNat else min (k:Int).toNat n)=min k n
 rw[if_neg (by lia),toNat_natCast]
end
end HT
namespace L2
open PySem PySem.Spec PyProof.Rows
abbrev TO:=St->Hp->(Option Int->Hp->Prop)->Prop
def PO (X:Cx)(e:Option Expr)(t:TO):Prop:=
 ∀(pins:List (Addr×Obj)) (s:Shared) (O:St) (H:Hp) (Q:Option Int->Hp->Prop),Inv X pins O H s->t O H Q->
  wpAny (model X.prog X.w) X.A (evalPart e X.env) (λu s'=>∃o H',Inv X pins O H' s'/\IsPart u o/\Q o H') X.xe s
def tNoPart:TO:=λ_ H Q=>Q none H
def tPart (t:TE):TO:=λO H Q=>t O H λx H1=>∃i,x = .int i/\Q (some i) H1
theorem intsAre_of {ns:List Int}:∀{us:List Value},Vals (ns.map V.int) us->IntsAre us ns:=by
 induction ns with
 |nil=>intro us r;rw[map_nil]at r;cases r;exact .nil
 |cons n ns ih=>
  intro us r
  cases r with
  |cons r1 r2=>
   obtain⟨t,e⟩:=r1
   subst e
   exact .cons n t (ih r2)
section
variable {X:Cx}{e:Expr}{te:TE}{lo hi:Option Expr}{tl th:TO}{pos p2:Pos}
theorem po_none:PO X none tNoPart:=by
 intro pins s O H Q I h
 exact wpAny_pure ⟨none,H,I,.none,h⟩
theorem po_some (h:PE X e te):PO X (some e) (tPart te):=by
 intro pins s O H Q I hw
 refine thn (h pins s O H _ I hw) λu s1 ⟨x,H1,I1,r1,q1⟩=>?_
 obtain⟨i,rfl,q⟩:=q1
 obtain⟨t,rfl⟩:=r1
 exact⟨some i,H1,I1,.int i t,q⟩
def SlR (X:Cx)(r:V->Option Int->Option Int->Hp->VK->Prop):Prop:=
 ∀(pins:List (Addr×Obj)) (s:Shared) (O:St) (H:Hp) (x:V) (v vl vu:Value) (lo hi:Option Int) (sl:Addr) (Q:VK),Inv X pins O H s->RelV x v->s.heap.IsSliceOf sl vl vu .none->IsPart vl lo->IsPart vu hi->r x lo hi H Q->
  ∃T id,typeLookup (.type T) "__getitem__"=pure (some (.builtin id))/\s.TypeIs v T/\wpAny (model X.prog X.w) X.A (getItem v (.ref sl)) (EP X pins O Q) X.xe s
def tSl (r:V->Option Int->Option Int->Hp->VK->Prop)(te:TE)(tl th:TO):TE:=λO H Q=>te O H λx H1=>tl O H1 λl H2=>th O H2 λu H3=>r x l u H3 Q
theorem pe_slice {r:V->Option Int->Option Int->Hp->VK->Prop}(hr:SlR X r)(he:PE X e te)(hl:PO X lo tl)(hu:PO X hi th):PE X (.Subscript e (.Slice lo hi none p2) pos) (tSl r te tl th):=by
 intro pins s O H Q I h
 refine Subscript_ (thn (he pins s O H _ I h) λv s1 ⟨x,H1,I1,r1,q1⟩=>?_)
 refine wpAny_Slice (thn (hl pins s1 O H1 _ I1 q1) λvl s2 ⟨l,H2,I2,pl,q2⟩=>thn (hu pins s2 O H2 _ I2 q2) λvu s3 ⟨u,H3,I3,pu,q3⟩=>?_)
 refine wpAny_pure ?_
 have I4:Inv X pins O H3 {s3 with heap:=s3.heap.push {cls:=.type "slice",data:=.fields #[vl,vu,.none]}}:=I3.kept (t':=s3.toks) λb ob q=>get?_push_of_some _ q
 obtain⟨T,id,hT,ht,hg⟩:=hr pins {s3 with heap:=s3.heap.push {cls:=.type "slice",data:=.fields #[vl,vu,.none]}} O H3 x v vl vu l u s3.heap.objs.size Q I4 r1 (Heap.IsSliceOf.new ..) pl pu q3
 exact tail_any (ops:=[.ref s3.heap.objs.size,v]) ht hT hg (by with_unfolding_all rfl)
def cutV (xs:List V)(lo hi:Option Int):List V:=(xs.drop (HT.sIx xs.length 0 lo)).take (HT.sIx xs.length xs.length hi-HT.sIx xs.length 0 lo)
theorem cutV_length (xs:List V)(lo hi:Option Int):(cutV xs lo hi).length<=xs.length:=by
 unfold cutV
 rw[length_take,length_drop]
 lia
def rCatT (K:Frag):R2:=λx y H Q=>∃a b xs ys,x = .ref a/\y = .ref b/\SqT K H a xs/\SqT K H b ys/\xs≠[]/\xs.length+ys.length<=sizeLine/\
 (ys=[]->Q (.ref a) H)/\(ys≠[]->∀p,H p=none->Q (.ref p) (upd H p (.tup (xs++ys))))
theorem Vals.nil_iff {xs:List V}{us:List Value}(r:Vals xs us):us=[]↔xs=[]:=by
 cases r with
 |nil=>simp
 |cons _ _=>simp
theorem op_catT:OpR X (binaryOp .Add) (rCatT X.K):=by
 intro pins s O H x y v u Q I rx ry h
 obtain⟨a,b,xs,ys,rfl,rfl,ha,hb,hx,hz,q1,q2⟩:=h
 cases rx
 cases ry
 obtain⟨its,r1,p1,_⟩:=I.tuple ha
 obtain⟨its2,r2,p2,_⟩:=I.tuple hb
 refine HT.cat_tup p1 p2 (λz=>hx (r1.nil_iff.mp z)) (λz=>⟨.ref a,H,I,rfl,q1 (r2.nil_iff.mp z)⟩) (λz=>?_) (by rw[<- r1.length,<- r2.length];exact hz)
 refine⟨.ref s.heap.objs.size,_,I.laid (t':=s.toks) (o:=.tup (xs++ys)) (λb ob q=>get?_push_of_some _ q) (Nat.le_refl _) ?_,rfl,q2 (λw=>z (r2.nil_iff.mpr w)) _ (I.hok.fresh (Nat.le_refl _))⟩
 exact⟨by rw[length_append];exact hz,_,r1.append r2,IsTup.new _ _⟩
end
def ixN (n:Nat)(i:Int):Option Nat:=if 0<=i then (if i<n then some i.toNat else none) else if -(n:Int)<=i then some (i+n).toNat else none
def atI {α:Type}(xs:List α)(i:Int):Option α:=(ixN xs.length i).bind λj=>xs[j]?
theorem ixN_seq {n:Nat}{i:Int}{j:Nat}(h:ixN n i=some j):seqIndex? i n=some j/\j<n/\-(n:Int)<=i/\i<n:=by
 unfold ixN at h
 by_cases h0:0<=i
 .rw [if_pos h0]at h
  by_cases h1:i<n
  .rw [if_pos h1]at h
   have e:i.toNat=j:=Option.some.inj h
   exact⟨by rw[seqIndex_of h0 h1,e],by lia,by lia,h1⟩
  .rw [if_neg h1]at h;cases h
 .rw [if_neg h0]at h
  by_cases h1 : -(n:Int)<=i
  .rw [if_pos h1]at h
   have e:(i+n).toNat=j:=Option.some.inj h
   exact⟨by rw[seqIndex_neg (by lia) h1,e],by lia,h1,by lia⟩
  .rw [if_neg h1]at h;cases h
theorem atI_get {α:Type}{xs:List α}{i:Int}{v:α}(h:atI xs i=some v):∃j,seqIndex? i xs.length=some j/\xs[j]?=some v/\j<xs.length/\-(xs.length:Int)<=i/\i<xs.length:=by
 unfold atI at h
 cases e:ixN xs.length i with
 |none=>rw[e]at h;cases h
 |some j=>
  rw[e]at h
  obtain⟨h1,h2,h3,h4⟩:=ixN_seq e
  exact⟨j,h1,h,h2,h3,h4⟩
theorem atI_nat {α:Type}{xs:List α}{j:Nat}{v:α}(h:xs[j]?=some v):atI xs (j:Int)=some v:=by
 have hj:j<xs.length:=(List.getElem?_eq_some_iff.mp h).1
 have e:ixN xs.length (j:Int)=some j:=by
  unfold ixN
  rw[if_pos (by lia),if_pos (by lia)];simp
 unfold atI;rw[e];exact h
theorem atI_last {α:Type}(xs:List α)(v:α):atI (xs++[v]) (-1)=some v:=by
 have hl:(xs++[v]).length=xs.length+1:=by simp
 have e:ixN (xs++[v]).length (-1)=some xs.length:=by
  unfold ixN
  rw[ if_neg (by decide),if_pos (by lia)]
  congr 1
  lia
 unfold atI
 rw[e]
 simp
def PlainIx (b:Expr):Prop:=∀o i,subscripted b false o i=operate [o,i] (getItem o i)
def IxR (X:Cx)(r:R2):Prop:=
 ∀(value slice:Expr) (pins:List (Addr×Obj)) (s:Shared) (O:St) (H:Hp) (x y:V) (v u:Value) (Q:VK),Inv X pins O H s->RelV x v->RelV y u->r x y H Q->
  subscripted slice false v u=operate [v,u] (getItem v u)->wpAny (model X.prog X.w) X.A (subscriptTail value slice v u) (EP X pins O Q) X.xe s
def MtR (X:Cx)(id:String)(r:V->List V->Hp->VK->Prop):Prop:=
 ∀(pins:List (Addr×Obj)) (s:Shared) (O:St) (H:Hp) (x:V) (xs:List V) (v:Value) (us:List Value) (Q:VK),Inv X pins O H s->RelV x v->Vals xs us->r x xs H Q->
  wpAny (model X.prog X.w) X.A (call (.builtin id) (v::us)) (EP X pins O Q) X.xe s
section
variable {X:Cx}{a b:Expr}{ta tb:TE}{pos:Pos}
theorem pe_ix {r:R2}(hr:IxR X r)(ha:PE X a ta)(hb:PE X b tb)(hs:PlainIx b):PE X (.Subscript a b pos) (tOp r ta tb):=by
 intro pins s O H Q I h
 exact Subscript_ (binT ha hb I h λv u s2 x y H2 I2 rx ry q=>hr a b pins s2 O H2 x y v u Q I2 rx ry q (hs _ _))
def rIxL (K:Frag):R2:=λx y H Q=>∃p xs i v,x = .ref p/\y = .int i/\SqL K H p xs/\atI xs i=some v/\Q v H
def rIxT (K:Frag):R2:=λx y H Q=>∃p xs i v,x = .ref p/\y = .int i/\SqT K H p xs/\atI xs i=some v/\Q v H
theorem ix_list:IxR X (rIxL X.K):=by
 intro value slice pins s O H x y v u Q I rx ry h hs
 obtain⟨p,xs,i,z,rfl,rfl,hq,he,q⟩:=h
 cases rx
 obtain⟨t,rfl⟩:=ry
 obtain⟨its,r,pl,hz⟩:=I.list hq
 obtain⟨j,h1,h2,h3,h4,h5⟩:=atI_get he
 obtain⟨w,ew,rw'⟩:=r.get h2
 have hl:=r.length
 have hn:=line63
 have fin:EP X pins O Q w s:=⟨z,H,I,rw',q⟩
 by_cases h0:0<=i
 .have hj:i.toNat=j:=by
   rw[seqIndex_of h0 h5]at h1
   exact Option.some.inj h1
  exact item_listR pl.isList h0 (by lia) (by rw[hj];simpa using ew) fin hs
 .have hj:(i+(its.toArray.size:Int)).toNat=j:=by
   rw[seqIndex_neg (by lia) h4]at h1
   rw[size_toArray,<- hl]
   exact Option.some.inj h1
  exact subscriptTail_builtinR pl.isList.typeIs slot_list_getitem.lookup
   (wpAny_getItem_list_neg (Q:=λr s'=>r=w/\EP X pins O Q r s') pl.isList (by lia) (by rw[size_toArray]<;>lia) (by lia) (by rw[hj];simpa using ew) ⟨rfl,fin⟩) hs
theorem ix_tup:IxR X (rIxT X.K):=by
 intro value slice pins s O H x y v u Q I rx ry h hs
 obtain⟨p,xs,i,z,rfl,rfl,hq,he,q⟩:=h
 cases rx
 obtain⟨t,rfl⟩:=ry
 obtain⟨its,r,pl,hz⟩:=I.tuple hq
 obtain⟨j,h1,h2,h3,h4,h5⟩:=atI_get he
 obtain⟨w,ew,rw'⟩:=r.get h2
 have hl:=r.length
 have hn:=line63
 have fin:EP X pins O Q w s:=⟨z,H,I,rw',q⟩
 exact subscriptTail_builtinR pl.typeIs slot_tuple_getitem.lookup
  (getItem_tuple (Q:=λr s'=>r=w/\EP X pins O Q r s') pl (by lia) (by lia) (by rw[size_toArray,<- hl];exact h1) (by simpa using ew) ⟨rfl,fin⟩) hs
theorem mapSeq_set (its:List Value)(n j:Nat)(u:Value):Obj.mapSeq (·.setIfInBounds j u) {cls:=.type "list",data:=.seq its.toArray n}={cls:=.type "list",data:=.seq (its.set j u).toArray n}:=by
 simp[Obj.mapSeq]
theorem Inv.lst {pins:List (Addr×Obj)}{O:St}{H:Hp}{s:Shared}{p:Addr}{xs:List V}(I:Inv X pins O H s)(h:H p=some (.lst xs)):
  ∃(its:List Value) (n:Nat),Vals xs its/\s.heap.get? p=some {cls:=.type "list",data:=.seq its.toArray n}/\xs.length<=sizeLine:=by
 obtain⟨z,its,n,r,e⟩:=I.hok p _ h
 exact⟨its,n,r,e,z⟩
theorem Inv.lstUpd {pins:List (Addr×Obj)}{O:St}{H:Hp}{s:Shared}{p:Addr}{xs ys:List V}{its its':List Value}{n n':Nat}{f:Obj->Obj}(I:Inv X pins O H s)(h:H p=some (.lst xs))
  (ho:s.heap.get? p=some {cls:=.type "list",data:=.seq its.toArray n}) (hf:f {cls:=.type "list",data:=.seq its.toArray n}={cls:=.type "list",data:=.seq its'.toArray n'}) (r:Vals ys its') (hz:ys.length<=sizeLine) (t:Nat):
  Inv X pins O (upd H p (.lst ys)) {s with heap:=s.heap.update p f,toks:=t}:=by
 have e:(s.heap.update p f).get? p=some {cls:=.type "list",data:=.seq its'.toArray n'}:=by
  rw[get?_update_self f ho (by rw[hf]<;>rfl),hf]
 refine I.write (by rw[h];trivial) (.inl rfl) (λb u hb q=>(get?_update_other _ _ (Ne.symm hb)).trans q) ⟨_,e⟩ ?_
 exact⟨hz,its',n',r,e⟩
def rSetL:V->V->V->Hp->(Hp->Prop)->Prop:=λo i v H Q=>∃p xs k j,o = .ref p/\i = .int k/\H p=some (.lst xs)/\ixN xs.length k=some j/\Q (upd H p (.lst (xs.set j v)))
theorem set_list:PSet X rSetL:=by
 intro pins s O H o i v ov iv u Q I ro ri rv h
 obtain⟨p,xs,k,j,rfl,rfl,hp,hj,q⟩:=h
 cases ro
 obtain⟨t,rfl⟩:=ri
 obtain⟨its,n,r,ho,hz⟩:=I.lst hp
 obtain⟨h1,h2,h3,h4⟩:=ixN_seq hj
 have hl:=r.length
 have hn:=line63
 have I':Inv X pins O (upd H p (.lst (xs.set j v))) {s with heap:=s.heap.update p (Obj.mapSeq (·.setIfInBounds j u))}:=
  I.lstUpd hp ho (mapSeq_set its n j u) (r.set rv j) (by rw[length_set];exact hz) s.toks
 by_cases h0:0<=k
 .have hk:k.toNat=j:=by
   rw[seqIndex_of h0 h4]at h1
   exact Option.some.inj h1
  exact PySem.W.ki_setAt ho h0 (by lia) (by rw[size_toArray,<- hl];exact h4) (by rw[hk];exact⟨_,I',q⟩)
 .have hk:(k+(its.toArray.size:Int)).toNat=j:=by
   rw[seqIndex_neg (by lia) h3]at h1
   rw[size_toArray,<- hl]
   exact Option.some.inj h1
  exact PySem.W.ki_setBack ho (by lia) (by rw[size_toArray,<- hl];exact h3) (by lia) (by rw[hk];exact⟨_,I',q⟩)
theorem slice_bounds (lo hi:Option Int)(n:Nat):(sliceBounds lo hi none n).1=((HT.sIx n 0 lo:Nat):Int)/\(sliceBounds lo hi none n).2.1=((HT.sIx n n hi:Nat):Int)/\(sliceBounds lo hi none n).2.2=1:=by
 refine⟨?_,?_,rfl⟩
 .cases lo with
  |none=>simp[sliceBounds,HT.sIx]
  |some i=>
   simp only[sliceBounds,HT.sIx,getD_none,if_true]
   by_cases h:i<0
   .simp only[h,if_true]<;>lia
   .simp only[h,if_false]<;>lia
 .cases hi with
  |none=>simp[sliceBounds,HT.sIx]
  |some i=>
   simp only[sliceBounds,HT.sIx,getD_none,if_true]
   by_cases h:i<0
   .simp only[h,if_true]<;>lia
   .simp only[h,if_false]<;>lia
theorem slicePick_cut (its:List Value)(lo hi:Option Int):slicePick its.toArray lo hi none=((its.drop (HT.sIx its.length 0 lo)).take (HT.sIx its.length its.length hi-HT.sIx its.length 0 lo)).toArray:=by
 obtain⟨h1,h2,h3⟩:=slice_bounds lo hi its.toArray.size
 unfold slicePick
 rw[h1,h2,h3]
 simp only[sliceRange_one,pick_run]<;>rfl
def rSlL (K:Frag):V->Option Int->Option Int->Hp->VK->Prop:=λx lo hi H Q=>∃a xs,x = .ref a/\SqL K H a xs/\∀p,H p=none->Q (.ref p) (upd H p (.lst (cutV xs lo hi)))
theorem sl_list:SlR X (rSlL X.K):=by
 intro pins s O H x v vl vu lo hi sl Q I rx hs pl pu h
 obtain⟨a,xs,rfl,hx,q⟩:=h
 cases rx
 obtain⟨its,r,ht,hz⟩:=I.list hx
 have hlen:=r.length
 refine⟨"list",_,slot_list_getitem.lookup,ht.isList.typeIs,?_⟩
 refine wpAny_getItem_list_slice ht.isList hs pl pu .none (by simp) ?_ (by rw[size_toArray]<;>lia)
 rw[slicePick_cut,<- hlen]
 refine⟨.ref s.heap.objs.size,_,I.laid (t':=s.toks) (o:=.lst (cutV xs lo hi)) (λb ob q=>get?_push_of_some _ q) (Nat.le_refl _) ?_,rfl,q _ (I.hok.fresh (Nat.le_refl _))⟩
 exact⟨Nat.le_trans (cutV_length xs lo hi) hz,_,0,(r.drop (HT.sIx xs.length 0 lo)).take (HT.sIx xs.length xs.length hi-HT.sIx xs.length 0 lo),get?_push_size _ rfl⟩
def flatV:V->Bool
 | .non=>true
 | .bl _=>true
 | .int _=>true
 | .str _=>true
 |_=>false
def eqV:V->V->Bool
 | .non,.non=>true
 | .bl a,.bl b=>a==b
 | .bl a,.int b=>(if a then 1 else 0)==b
 | .int a,.bl b=>a==(if b then 1 else 0)
 | .int a,.int b=>a==b
 | .str a,.str b=>a==b
 |_,_=>false
theorem eqAt_V {A:Around}{s:Shared}{y x:V}{u v:Value}(ry:RelV y u)(rx:RelV x v)(fy:flatV y=true)(fx:flatV x=true):SeqAt.EqAt A s u v (eqV y x):=by
 cases y with
 |non=>
  cases ry
  cases x with
  |non=>cases rx;exact SeqAt.EqAt.same _
  |bl b=>cases rx;exact SeqAt.EqAt.none_bool b
  |int b=>obtain⟨t,rfl⟩:=rx;exact SeqAt.EqAt.none_int b t
  |str b=>obtain⟨t,rfl⟩:=rx;exact SeqAt.EqAt.none_str b t
  |_=>exact absurd (show false=true from fx) Bool.false_ne_true
 |bl a=>
  cases ry
  cases x with
  |non=>cases rx;exact SeqAt.EqAt.bool_none a
  |bl b=>cases rx;exact SeqAt.EqAt.bool_bool a b
  |int b=>obtain⟨t,rfl⟩:=rx;exact SeqAt.EqAt.bool_int a b t
  |str b=>obtain⟨t,rfl⟩:=rx;exact SeqAt.EqAt.bool_str a b t
  |_=>exact absurd (show false=true from fx) Bool.false_ne_true
 |int a=>
  obtain⟨t',rfl⟩:=ry
  cases x with
  |non=>cases rx;exact SeqAt.EqAt.int_none a t'
  |bl b=>cases rx;exact SeqAt.EqAt.int_bool a t' b
  |int b=>obtain⟨t,rfl⟩:=rx;exact SeqAt.EqAt.int_int a t' b t
  |str b=>obtain⟨t,rfl⟩:=rx;exact SeqAt.EqAt.int_str a t' b t
  |_=>exact absurd (show false=true from fx) Bool.false_ne_true
 |str a=>
  obtain⟨t',rfl⟩:=ry
  cases x with
  |non=>cases rx;exact SeqAt.EqAt.str_none a t'
  |bl b=>cases rx;exact SeqAt.EqAt.str_bool a t' b
  |int b=>obtain⟨t,rfl⟩:=rx;exact SeqAt.EqAt.str_int a t' b t
  |str b=>obtain⟨t,rfl⟩:=rx;exact SeqAt.EqAt.str_str a t' b t
  |_=>exact absurd (show false=true from fx) Bool.false_ne_true
 |_=>exact absurd (show false=true from fy) Bool.false_ne_true
theorem call_len_seq:CallR X (.builtin "len") (λxs H Q=>∃p ys,xs=[.ref p]/\(SqL X.K H p ys∨SqT X.K H p ys)/\Q (.int ys.length) H):=by
 intro pins s O H xs us Q I r h
 obtain⟨p,ys,rfl,hq,q⟩:=h
 obtain⟨u,rfl,rx⟩:=vals1 r
 cases rx
 have hn:=line63
 rcases hq with hq |hq
 .obtain ⟨its,r',pl,hz⟩:=I.list hq
  have hlen:=r'.length
  exact Calls.call_len_list pl.isList (by simp only[size_toArray]<;>lia) ⟨.int ys.length,H,I.tok _,⟨s.toks+1,by rw[size_toArray,hlen]⟩,q⟩
 .obtain ⟨its,r',pl,hz⟩:=I.tuple hq
  have hlen:=r'.length
  exact len_tuple pl (by simp only[size_toArray]<;>lia) ⟨.int ys.length,H,I.tok _,⟨s.toks+1,by rw[size_toArray,hlen]⟩,q⟩
theorem call_list_of:CallR X (.type "list") (λxs H Q=>∃p ys,xs=[.ref p]/\(SqL X.K H p ys∨SqT X.K H p ys)/\∀l,H l=none->Q (.ref l) (upd H l (.lst ys))):=by
 intro pins s O H xs us Q I r h
 obtain⟨p,ys,rfl,hq,q⟩:=h
 obtain⟨u,rfl,rx⟩:=vals1 r
 cases rx
 have fin:∀(its:List Value),Vals ys its->ys.length<=sizeLine->∀(h':Heap) (c':Nat),(∀b o',s.heap.get? b=some o'->h'.get? b=some o')->
   h'.get? s.heap.objs.size=some {cls:=.type "list",dict:=none,data:=.seq its.toArray c',slots:=#[]}->EP X pins O Q (.ref s.heap.objs.size) {s with heap:=h'}:=λits r' hz h' c' kp e=>
  ⟨.ref s.heap.objs.size,_,I.laid (t':=s.toks) kp (Nat.le_refl _) (show ObjOk X.prog X.w _ h' _ (.lst ys) from⟨hz,its,c',r',e⟩),rfl,q _ (I.hok.fresh (Nat.le_refl _))⟩
 rcases hq with hq |hq
 .obtain ⟨its,r',pl,hz⟩:=I.list hq
  have hlen:=r'.length
  obtain⟨o,ho,hc,n,hd⟩:=pl.isList
  exact call_list_seq p (.inl rfl) ho hc hd (λh' c' kp e=>fin its r' hz h' c' kp e) (by simp only[size_toArray]<;>lia)
 .obtain ⟨its,r',pl,hz⟩:=I.tuple hq
  have hlen:=r'.length
  obtain⟨o,ho,hc,n,hd⟩:=pl
  exact call_list_seq p (.inr rfl) ho hc hd (λh' c' kp e=>fin its r' hz h' c' kp e) (by simp only[size_toArray]<;>lia)
theorem call_tuple_of:CallR X (.type "tuple") (λxs H Q=>∃p ys,xs=[.ref p]/\((SqL X.K H p ys/\∀l,H l=none->Q (.ref l) (upd H l (.tup ys)))∨(SqT X.K H p ys/\Q (.ref p) H))):=by
 intro pins s O H xs us Q I r h
 obtain⟨p,ys,rfl,h⟩:=h
 obtain⟨u,rfl,rx⟩:=vals1 r
 cases rx
 rcases h with⟨hq,q⟩ | ⟨hq,q⟩
 .obtain ⟨its,r',pl,hz⟩:=I.list hq
  have hlen:=r'.length
  refine call_tuple_list pl.isList (λh' kp=>?_) (by simp only[size_toArray]<;>lia)
  have I1:Inv X pins O H {s with heap:=h'}:=I.kept (t':=s.toks) kp
  have I2:Inv X pins O (upd H h'.objs.size (.tup ys)) {s with heap:=h'.push {cls:=.type "tuple",data:=.seq its.toArray}}:=
   I1.laid (t':=s.toks) (λb o e=>get?_push_of_some _ e) (Nat.le_refl _) (show ObjOk X.prog X.w _ _ _ (.tup ys) from⟨hz,its,r',IsTup.new _ _⟩)
  exact⟨.ref h'.objs.size,_,I2,rfl,q _ (I1.hok.fresh (Nat.le_refl _))⟩
 .obtain ⟨its,r',pl,hz⟩:=I.tuple hq
  exact call_tuple_same pl ⟨.ref p,H,I,rfl,q⟩
def tyV (K:Frag)(T:String)(x:V)(H:Hp):Prop:=match x with
 | .str _=>T = "str"
 | .int _=>T = "int"
 | .ref p=>(T = "list"/\∃xs,SqL K H p xs)∨(T = "tuple"/\∃o,K.lookup p=some o/\o.cls = .type "tuple"/\o.dict=none)∨
   (T = "dict"/\((∃kvs,H p=some (.dK kvs))∨∃kvs,H p=some (.dT kvs)))∨(T = "set"/\∃S n,H p=some (.set S n))
 |_=>False
theorem tyV_is {pins:List (Addr×Obj)}{O:St}{H:Hp}{s:Shared}{T:String}{x:V}{v:Value}(I:Inv X pins O H s)(r:RelV x v)(ty:tyV X.K T x H):
  s.TypeIs v T/\∀a,v = .ref a->∃ob,s.heap.get? a=some ob/\ob.dict=none:=by
 cases x with
 |str z=>
  obtain⟨t,rfl⟩:=r
  cases (show T = "str" from ty)
  exact⟨typeIs_str s z t,λ_ e=>nomatch e⟩
 |int i=>
  obtain⟨t,rfl⟩:=r
  cases (show T = "int" from ty)
  exact⟨typeIs_int s i t,λ_ e=>nomatch e⟩
 |ref p =>
  cases r
  rcases ty with⟨rfl,xs,hq⟩ | ⟨rfl,o,hk,hc,hd⟩ | ⟨rfl,hk⟩ | ⟨rfl,S,n,hk⟩
  .obtain ⟨its,_,pl,_⟩:=I.list hq
   refine⟨pl.isList.typeIs,λa e=>?_⟩
   cases e
   obtain⟨o,n,e,c,hd,_⟩:=pl
   exact⟨o,e,hd⟩
  .refine ⟨⟨o,I.kIn p o hk,hc⟩,λa e=>?_⟩
   cases e
   exact⟨o,I.kIn _ o hk,hd⟩
  .have z:∃o,s.heap.get? p=some o/\o.ExactDict:=by
    rcases hk with⟨kvs,hk⟩ | ⟨kvs,hk⟩
    .obtain ⟨_,_,_,_,o,_,_,e,ex,_⟩:=I.hok p _ hk
     exact⟨o,e,ex⟩
    .obtain ⟨_,_,_,_,o,_,_,e,ex,_⟩:=I.hok p _ hk
     exact⟨o,e,ex⟩
   obtain⟨o,e,ex⟩:=z
   refine⟨⟨o,e,ex.1⟩,λa e2=>?_⟩
   cases e2
   exact⟨o,e,ex.2.1⟩
  .obtain ⟨o,_,_,_,e,ex,_⟩:=I.hok p _ hk
   refine⟨⟨o,e,ex.1⟩,λa e2=>?_⟩
   cases e2
   exact⟨o,e,ex.2.1⟩
 |_=>exact False.elim ty
def tBM (K:Frag)(T:String)(r:V->List V->Hp->VK->Prop)(to:TE)(t:TA):TE:=λO H Q=>to O H λx H1=>tyV K T x H1/\t O H1 λxs H2=>r x xs H2 Q
variable {o e:Expr}{es:List Expr}{to:TE}{t:TA}{name:Str}{apos cpos:Pos}{T id:String}{r:V->List V->Hp->VK->Prop}
theorem pe_bm (pa:PlainAttrs T)(slot:Slot T name id)(hty:typeOf (.builtin id)=pure (.type "method_descriptor"))(hm:MtR X id r)(ho:PE X o to)(ha:PA X (e::es) t)
  (hbase:attributeBase o name X.env (eval o X.env)=eval o X.env:=by rfl)
  (hfew:((backTo cpos (starEach (e::es) X.env)).all (λx => !x.1) && (backToKw cpos (keywordEach [] X.env)).all (λx=>x.1.isSome)
   && decide ((e::es).length+([]:List Keyword).length+(if ([]:List Keyword).isEmpty then 0 else 1)<30))=true:=by rfl)
  (hline:(apos.endLine==cpos.line)=true:=by rfl) (hs:starEach (e::es) X.env=(false,eval e X.env)::starEach es X.env:=by rfl) (hplain:(backTo cpos (starEach es X.env)).any (·.1)=false:=by rfl):
  PE X (.Call (.Attribute o name apos) (e::es) [] cpos) (tBM X.K T r to t):=by
 intro pins s O H Q I h
 refine wpAny_Call_method_late hbase hfew hline rfl (thn (ho pins s O H _ I h) λv s1 ⟨x,H1,I1,r1,ty,q1⟩=>?_)
 obtain⟨h1,h2⟩:=tyV_is I1 r1 ty
 refine⟨T,id,pa,slot,hty,h1,h2,?_⟩
 have hA:=ha cpos pins s1 O H1 _ I1 q1
 rw[hs]at hA ⊢
 refine Calls.callWith_builtin (by show (false || (backTo cpos (starEach es X.env)).any (·.1))=false;rw[hplain]<;>rfl) (Calls.evalArgs_plain ?_)
 exact thn hA λus s2 ⟨vs,H2,I2,r2,q2⟩=>hm pins s2 O H2 x vs v us Q I2 r1 r2 q2
end
def MtM (X:Cx)(id:String)(r:V->List V->Hp->VK->Prop):Prop:=
 ∀(pins:List (Addr×Obj)) (s:Shared) (O:St) (H:Hp) (x:V) (xs:List V) (v:Value) (us:List Value) (Q:VK),Inv X pins O H s->RelV x v->Vals xs us->r x xs H Q->
  wpAny (model X.prog X.w) X.A (call (.builtin id) (v::us)) (EP X pins O Q) X.xe s
theorem Vals.one:∀{x:V} {us:List Value},Vals [x] us->∃u,us=[u]/\RelV x u
 |_,_,.cons r .nil=>⟨_,rfl,r⟩
theorem Vals.rep {xs:List V}{us:List Value}(h:Vals xs us):∀k:Nat,Vals (List.replicate k xs).flatten (List.replicate k us).flatten
 | 0=>.nil
 |k+1=>by
  exact Vals.append h (Vals.rep h k)
theorem foldl_rep (its:List Value):∀(k:Nat) (acc:List Value),
  List.foldl (λx1 x2=>x1++x2) acc.toArray (List.replicate k its.toArray)=(acc++(List.replicate k its).flatten).toArray
 | 0,acc=>by simp
 |k + 1,acc=>by
  have e:acc.toArray++its.toArray=(acc++its).toArray:=by simp
  have e2:(acc++its)++(List.replicate k its).flatten=acc++(List.replicate (k+1) its).flatten:=by
   rw[List.replicate_succ,List.flatten_cons,append_assoc]
  rw[<- e2,<- foldl_rep its k (acc++its),<- e,List.replicate_succ,foldl_cons]
section
variable {X:Cx}{pins:List (Addr×Obj)}{O:St}{H:Hp}{s:Shared}{l b:Addr}{xs ys zs:List V}
theorem Inv.lset {its its':List Value}{n:Nat}{f:Array Value->Array Value}{t':Nat}(I:Inv X pins O H s)(hH:H l=some (.lst xs))
  (e:s.heap.get? l=some {cls:=.type "list",data:=.seq its.toArray n}) (hf:f its.toArray=its'.toArray) (hv:Vals ys its') (hz:ys.length<=sizeLine):
  Inv X pins O (upd H l (.lst ys)) {s with heap:=s.heap.update l (Obj.mapSeq f),toks:=t'}:=by
 have q:=PySem.IsL.update e f
 rw[hf]at q
 refine I.write (by rw[hH];exact trivial) (.inl rfl) (λb' u hb hu=>(get?_update_other s.heap (Obj.mapSeq f) (Ne.symm hb)).trans hu) ⟨_,q⟩ ?_
 exact⟨hz,its',_,hv,q⟩
theorem Inv.lnew {its:List Value}{t':Nat}(I:Inv X pins O H s)(hv:Vals ys its)(hz:ys.length<=sizeLine):
  Inv X pins O (upd H s.heap.objs.size (.lst ys)) {s with heap:=s.heap.push {cls:=.type "list",data:=.seq its.toArray},toks:=t'}:=
 I.laid (λ_ _ q=>get?_push_of_some _ q) (Nat.le_refl _) ⟨hz,its,0,hv,get?_push_size _ rfl⟩
theorem Inv.fresh (I:Inv X pins O H s):H s.heap.objs.size=none:=I.hok.fresh (Nat.le_refl _)
theorem Inv.lstM (I:Inv X pins O H s)(hH:H l=some (.lst xs)):xs.length<=sizeLine/\∃(its:List Value) (n:Nat),Vals xs its/\xs.length=its.length/\s.heap.get? l=some {cls:=.type "list",data:=.seq its.toArray n}:=by
 obtain⟨z,its,n,r,e⟩:=I.hok l _ hH
 exact⟨z,its,n,r,r.length,e⟩
theorem notLongL {n:Nat}(h:n<=sizeLine):Builtin.List.listTooLong n=false:=by
 exact decide_eq_false (by lia)
end
section
variable {X:Cx}
def rAppend:V->List V->Hp->VK->Prop:=λx vs H Q=>∃l xs y,x = .ref l/\vs=[y]/\H l=some (.lst xs)/\xs.length<sizeLine/\Q .non (upd H l (.lst (xs++[y])))
theorem mt_append:MtM X "list.append" rAppend:=by
 intro pins s O H x vs v us Q I rx rv h
 obtain⟨l,xs,y,rfl,rfl,hH,hz,q⟩:=h
 cases rx
 obtain⟨u,rfl,ru⟩:=rv.one
 obtain⟨z,its,n,r,hl,e⟩:=I.lstM hH
 refine call_meets F.slot_list_append ⟨_,e,rfl⟩ F.entry_list_append (F.args_list_append_2 _ _) (PySem.list_append l its.toArray n u (by rw[size_toArray];lia)) ⟨e,?_⟩
 refine⟨.non,_,I.lset (its':=its++[u]) hH e (by simp) (r.append (.cons ru .nil)) ?_,rfl,q⟩
 rw[length_append,List.length_singleton]
 lia
def rRep:R2:=λx y H Q=>∃l k xs,x = .ref l/\y = .int k/\H l=some (.lst xs)/\-(2^63)<=k/\k<2^63/\xs.length*k.toNat<=sizeLine/\
 ∀p,H p=none->Q (.ref p) (upd H p (.lst (List.replicate k.toNat xs).flatten))
theorem len_rep {α:Type}(xs:List α)(k:Nat):(List.replicate k xs).flatten.length=k*xs.length:=by
 induction k with
 |zero=>simp
 |succ k ih=>rw[List.replicate_succ,List.flatten_cons,length_append,ih,succ_mul,Nat.add_comm]
theorem op_rep:OpR X (binaryOp .Mult) rRep:=by
 intro pins s O H x y v u Q I rx ry h
 obtain⟨l,k,xs,rfl,rfl,hH,h1,h2,hz,q⟩:=h
 cases rx
 obtain⟨t,rfl⟩:=ry
 obtain⟨z,its,n,r,hl,e⟩:=I.lstM hH
 have hlen:its.toArray.size*k.toNat<=sizeLine:=by rw[size_toArray,<- hl];exact hz
 have hcap:¬ its.toArray.size*k.toNat > (2^63-1) / 8:=by
  have:(sizeLine:Nat)<=(2^63-1) / 8:=by decide
  lia
 have hfit:¬ (!Builtin.List.listFitsIndex k)=true:=by
  rw[fitsIndex_both h1 h2]
  exact Bool.false_ne_true
 have hlong:¬ Builtin.List.listTooLong (its.toArray.size*k.toNat)=true:=by
  rw[notLongL hlen]
  exact Bool.false_ne_true
 have hnew:List.foldl (λx1 x2=>x1++x2) #[] (List.replicate (if its.toArray.isEmpty=true then 0 else k.toNat) its.toArray)=(List.replicate k.toNat its).flatten.toArray:=by
  have f0:∀m:Nat,List.foldl (λx1 x2=>x1++x2) #[] (List.replicate m its.toArray)=(List.replicate m its).flatten.toArray:=λm=>by
   have:=foldl_rep its m []
   exact this
  rw[f0]
  cases its with
  |nil=>simp
  |cons a r'=>rw[if_neg (by simp)]
 refine wpAny_binaryOp_repeat_ref (T := "list") (U := "int") rfl ⟨_,e,rfl⟩ (λs'=>typeIs_int s' k t) noFill_list_mul F.fills_int_mul F.slot_int_rmul repeat_list F.slot_int_index.lookup
  (call_meets F.slot_int_rmul (typeIs_int s k t) F.entry_int_rmul (F.args_int_rmul_2 _ _) (int___rmul___int_list k t l its.toArray n)
   ⟨e,rfl,⟨_,e,rfl⟩,call_meets F.slot_list_mul ⟨_,e,rfl⟩ F.entry_list_mul (F.args_list_mul_2 _ _) (AutoListH.list___mul___list_int_3 l its.toArray n k t hfit hcap hlong) ⟨e,?_⟩⟩)
 rw[hnew]
 exact⟨.ref _,_,I.lnew (t':=s.toks) (r.rep k.toNat) (by rw[len_rep,Nat.mul_comm];exact hz),rfl,q _ I.fresh⟩
end
section
variable {prog:Program}{w:World}{A:Around}{E:Value->Shared->Prop}{s:Shared}
set_option maxRecDepth 100000 in
end
section
variable {X:Cx}
end
end L2
namespace Att
open PySem PySem.W PySem.Calls PyProof.Rows
theorem ints_of_wellAll {P:Params}{h:Heap}:∀(ns:List Int) (vs:List Value),WellAll P h vs (ns.map WData.int)->IntsAre vs ns:=by
 intro ns
 induction ns with
 |nil=>
  intro vs w
  cases w
  exact .nil
 |cons n ns ih=>
  intro vs w
  cases w with
  |cons a b=>
   cases a
   exact .cons _ _ (ih _ b)
theorem script_of {l:OpenLaw}{n:Nat}(hn:l.most=some n){P:Params}{h:Heap}{args:List WData}{vals:List Value}
  (hpre:l.row.toRowW.claim.pre args=true) (hwl:WellAll P h vals args):
  ∃a vs ns,vals=[Value.ref a]/\args=[WData.list (ns.map WData.int)]/\h.get? a=some {cls:=.type "list",data:=.seq vs.toArray}/\IntsAre vs ns/\ns.length<=n:=by
 have hsh:WShape.hasAll [] args [.list .int]=true:=(pre_splitW hpre).1
 have hc:l.pre.holds [] {args:=args}=true:=(pre_splitW hpre).2
 obtain⟨d,r,rfl,h1,h2⟩:=hasAllW_cons hsh
 obtain rfl:=hasAllW_nil h2
 obtain⟨xs,rfl,h3⟩:=hasW_list h1
 obtain⟨ns,rfl⟩:=items_int h3
 have hlen:ns.length<=n:=by
  have h4:(WTm.not (.lt (.lit (.int (n:Int))) (.len (.arg 0)))).holds [] {args:=[.list (ns.map .int)]}=true:=by
   have h4:=(holds_andW hc).1
   rw[hn]at h4
   exact h4
  have h5:=condW_of h4 (w_not (w_lt w_lit (w_len_list (w_arg rfl))))
  refine Nat.le_of_not_lt λq=>?_
  first
   | (rw[decide_eq_true q']at h5;exact absurd h5 rfl)
   | (simp at h5;lia)
 cases hwl with
 |cons w1 w2=>
  cases w2
  cases w1 with
  |list ho hall=>exact⟨_,_,ns,rfl,rfl,ho,ints_of_wellAll ns _ hall,hlen⟩
theorem post_true (l:OpenLaw)(args:List WData):l.row.toRowW.claim.post args (.bool true) args=true:=
 postW_of (X:=(true==true))
  (show WShape.has [] (.bool true) .bool=true by first |rfl |decide |simp[ WShape.armsAll])
  (show (WTm.eq .res (.lit (.bool true))).value [] {args:=args,res:=some (.bool true),after:=args}=some (.bool (true==true)) from w_eq_bool (w_res rfl) w_lit) rfl
theorem attach_call {l:OpenLaw}{n:Nat}{q:Program}{loose:List Str}{XP:(Str->Option Value)->Heap->Prop}{YP:World->Heap->Prop}{d:DefRec}
  (hn:l.most=some n) (hdf:d.params.defaults=[])
  (call:∀(w:World) (s₀ s₁:Shared) (mg mb:Str->Option Value) (fa:Addr) (o:Obj) (pm cd doc:Value) (a:Addr) (vs:List Value) (ns:List Int),
   Ground q loose [] XP w s₀ mg mb s₁.heap->YP w s₁.heap->
   s₁.heap.get? fa=some o->o.data = .func (docDef d.name d.params d.body d.scope pm cd doc)->s₁.heap.CodeRec cd d.name->mg d.name=some (.ref fa)->
   s₁.heap.get? a=some {cls:=.type "list",data:=.seq vs.toArray}->IntsAre vs ns->ns.length<=n->s₁.gens=#[]->
   codeAny (model l.prog w) callerA (.call (.ref fa) ⟨[.ref a],[]⟩) (λr s'=>r = .ok (.ret (.bool true))/\OldK s₁.heap s'.heap/\s'.os=s₁.os/\AllBare s'.gens) s₁):
  WalkO q loose XP YP l.row.toRowW d [] (λf vs=>PySem.call f vs):=by
 intro w s₀ s₁ mg mb G Y fa o pm cd doc dV kV ho hd hcd hD hmg hg args vals as hpre hlay hrd hwl hlo
 obtain rfl:dV = .none:=Dflts.none hD hdf
 obtain rfl:kV = .none:=Dflts.noKw hD
 obtain⟨a,vs,ns,rfl,rfl,hobj,hints,hlen⟩:=script_of hn hpre hwl
 refine enter_call (codeAny_mono (call w s₀ s₁ mg mb fa o pm cd doc a vs ns G Y ho (fd_plain hd) hcd hmg hobj hints hlen hg) λr s' hq=>?_)
 obtain⟨rfl,h2,h3,h4⟩:=hq
 exact⟨.inl ⟨.bool true,.bool true,[],rfl,λ_=>rfl,.bool true,post_true l _,λ_=>⟨List.Pairwise.nil,λ_ hm=>(nomatch hm)⟩⟩,h2,h3,h4⟩
section
variable {prog:Program}{w:World}{A:Around}{E:Value->Shared->Prop}{s:Shared}{K:Frag}
end
end Att
namespace L2
open PySem PySem.Spec PyProof.Rows
theorem vals_ints:∀{vs:List Value} {ns:List Int},IntsAre vs ns->Vals (ns.map V.int) vs
 |_,_,.nil=>.nil
 |_,_,.cons n t h=>.cons ⟨t,rfl⟩ (vals_ints h)
def Only (H:Hp):Prop:=∀b,H b=none∨∃o xs,H b=some (.frz o (.lst xs))
theorem law_call {P:Program}{w:World}{K:Frag}{mg mb:Str->Option Value}{CX:CXT}{k:Nat}{fa a:Addr}{fd:FuncData}{x:Str}{sp:Sp}{s₁:Shared}{vs:List Value}{ns:List Int}
  (KX:K.In s₁.heap) (hns:s₁.heap.Ns mainGlobals mg) (hb:s₁.heap.Ns builtinsNs mb) (hbb:∀x:Str,x ≠ "__name__"->mb x=bootBuiltins x) (hlim:s₁.heap.NoLimit) (hg:s₁.gens=#[])
  (ha:s₁.heap.get? a=some {cls:=.type "list",data:=.seq vs.toArray}) (hi:IntsAre vs ns) (hl:ns.length<=sizeLine) (hr:Room k callerA)
  (F:∀base:Heap,K.In base->base.Ns mainGlobals mg->FnOk P w K mg base CX k fa fd [x] sp) (hbind:∀(s:Shared) (u:Value),BindsTo s fd ⟨[u],[]⟩ [(x,u)])
  (hsp:∀H:Hp,Only H->SqL K H a (ns.map V.int)->sp [.ref a] H (λv _=>v = .bl true) λ_ _ _=>False)
  (hCX:∀H e s',CX [] H s₁ (λ_ _ _=>False) e s'->False):
  codeAny (model P w) callerA (.call (.ref fa) ⟨[.ref a],[]⟩) (λr s'=>r = .ok (.ret (.bool true))/\OldK s₁.heap s'.heap/\s'.os=s₁.os/\AllBare s'.gens) s₁:=by
 have rv:=vals_ints hi
 have lenV:=hi.length
 have core : ∀H:Hp,Only H->SqL K H a (ns.map V.int)->HOk P w H s₁.heap->(∀b,H b≠none->b=a)->(H a≠none->K.lookup a=none)->
   codeAny (model P w) callerA (.call (.ref fa) ⟨[.ref a],[]⟩) (λr s'=>r = .ok (.ret (.bool true))/\OldK s₁.heap s'.heap/\s'.os=s₁.os/\AllBare s'.gens) s₁:=by
  intro H hO hS hok hA hK
  have base_of:∀{b:Addr} {o:Obj},s₁.heap.get? b=some o->H b=none->(hidT s₁.heap H).get? b=some o:=λe n=>hidT_get e n
  have noA:∀{b:Addr} {o:Obj} {es:Array DictEntry} {ep:Nat},s₁.heap.get? b=some o->o.data = .dict es ep->H b=none:=λ{b o es ep} e d=>by
   cases q:H b with
   |none=>rfl
   |some u=>
    have e':b=a:=hA b (by rw[q];simp)
    subst e'
    rw[ha]at e;cases e
    have d':Data.seq vs.toArray _=Data.dict es ep:=d
    cases d'
  have nsK:∀{b:Addr} {m:Str->Option Value},s₁.heap.Ns b m->(hidT s₁.heap H).Ns b m:=λ{b m} ⟨o,es,ep,e,d,r⟩=>⟨o,es,ep,base_of e (noA e d),d,r⟩
  have hKb:K.In (hidT s₁.heap H):=λb o e=>base_of (KX b o e) (by
   cases q:H b with
   |none=>rfl
   |some u=>
    have e':b=a:=hA b (by rw[q];simp)
    subst e'
    rw[hK (by rw[q];simp)]at e;cases e)
  have hM:Mod K mg (hidT s₁.heap H):=⟨hKb,nsK hns,⟨mb,nsK hb,hbb⟩,let⟨mc,h1,h2⟩:=hlim;⟨mc,nsK h1,h2⟩⟩
  have e0:Env0 P w K mg (hidT s₁.heap H) callerA [] s₁ H:=⟨rfl,hM,λb o e=>of_hidT e,Nat.le_of_eq (hidT_size _ _),trivial,λb hb=>absurd (show b∈([]:List Addr) from hb) (by simp),hok,.of_eq hg⟩
  refine codeAny_mono ((F _ hKb (nsK hns)).run callerA [] s₁ H ⟨[.ref a],[]⟩ [.ref a] [.ref a] _ _ hr e0 (hbind s₁ (.ref a)) (.cons rfl .nil) (hsp H hO hS)) λr s' h=>?_
  cases r with
  |error e=>exact (hCX H e s' h).elim
  |ok fl =>
   cases fl with
   |next=>exact False.elim h
   |brk=>exact False.elim h
   |cont=>exact False.elim h
   |ret u=>
    obtain⟨v,H',os,bare,un,hok',r',q⟩:=h
    have q':v = .bl true:=q
    subst q'
    obtain rfl:u=Value.bool true:=r'
    refine⟨rfl,OldK.of_keep λb o e=>?_,os,bare⟩
    cases q:H b with
    |none=>exact un.keep b o e q (by intro z;exact absurd (show b∈([]:List Addr) from z) (by simp)) (by simp)
    |some u=>
     rcases hO b with z | ⟨ob,xs,z⟩
     .rw [q]at z;cases z
     .have z2:=un.frzs b ob _ z
      obtain⟨e1,_⟩:=hok b _ z
      obtain⟨e2,_⟩:=hok' b _ z2
      rw[e]at e1;cases e1
      exact e2
 cases hk:K.lookup a with
 |some o=>
  have e:=KX a o hk
  rw[ha]at e
  cases e
  refine core (λ_=>none) (λ_=>.inl rfl) (.inr ⟨_,vs.toArray,_,hk,rfl,rfl,rfl,by rw[size_toArray,lenV];exact hl,rv⟩) (λb u z=>by have z':(none:Option HO)=some u:=z;cases z') (λb z=>absurd rfl z) λz=>absurd rfl z
 |none=>
  refine core (λb=>if b=a then some (.frz {cls:=.type "list",data:=.seq vs.toArray} (.lst (ns.map V.int))) else none) (λb=>?_) (.inl (.inr ⟨{cls:=.type "list",data:=.seq vs.toArray},if_pos rfl⟩)) (λb u z=>?_) (λb z=>?_) λ_=>hk
  .by_cases hb:b=a
   .exact .inr ⟨_,_,if_pos hb⟩
   .exact .inl (if_neg hb)
  .by_cases hb:b=a
   .have z':=(if_pos hb).symm.trans z
    cases z'
    subst hb
    exact⟨ha,by rw[length_map];exact hl,vs,_,rv,ha⟩
   .have z':=(if_neg hb).symm.trans z
    cases z'
  .by_cases hb:b=a
   .exact hb
   .exact absurd (if_neg hb) z
theorem walk_of {l:PySem.W.OpenLaw}{n k:Nat}{q:Program}{loose:List Str}{XP:(Str->Option Value)->Heap->Prop}{YP:World->Heap->Prop}{d:DefRec}{K:Params->Frag}{CX:World->CXT}{sp:World->Sp}{x:Str}
  (hn:l.most=some n) (hn2:n<=sizeLine) (hdf:d.params.defaults=[]) (hr:Room k callerA)
  (hY:∀(w:World) (h:Heap),YP w h->(K w.params).In h)
  (F:∀(w:World) (mg:Str->Option Value) (fa:Addr) (h:Heap),(K w.params).In h->h.Ns mainGlobals mg->mg d.name=some (.ref fa)->
   ∃fd:FuncData,(∀(s:Shared) (u:Value),BindsTo s fd ⟨[u],[]⟩ [(x,u)])/\
    ∀base:Heap,(K w.params).In base->base.Ns mainGlobals mg->FnOk l.prog w (K w.params) mg base (CX w) k fa fd [x] (sp w))
  (hsp:∀(w:World) (H:Hp) (a:Addr) (ns:List Int),ns.length<=n->Only H->SqL (K w.params) H a (ns.map V.int)->sp w [.ref a] H (λv _=>v = .bl true) λ_ _ _=>False)
  (hCX:∀(w:World) (H:Hp) (s:Shared) (e:Value) (s':Shared),CX w [] H s (λ_ _ _=>False) e s'->False):
  PySem.W.WalkO q loose XP YP l.row.toRowW d [] (λf vs=>PySem.call f vs):=by
 refine Att.attach_call hn hdf λw s₀ s₁ mg mb fa o pm cd doc a vs ns G Y ho hd hcd hmg hobj hints hlen hg=>?_
 have KX:=hY w _ Y
 obtain⟨fd,hb,hF⟩:=F w mg fa _ KX G.T.g hmg
 exact law_call KX G.T.g G.T.b G.T.builtins G.T.nolimit hg hobj hints (Nat.le_trans hlen hn2) hr hF hb (λH hO hS=>hsp w H a ns hlen hO hS) λH e s'=>hCX w H s₁ e s'
def defArgs (s:Stmt):Arguments:=match s with
 | .FunctionDef _ a _ _ _ _ _ _ _ _=>a
 |_=>{posonlyargs:=[],args:=[],vararg:=none,kwonlyargs:=[],kw_defaults:=[],kwarg:=none,defaults:=[]}
def defBody (s:Stmt):List Stmt:=match s with
 | .FunctionDef _ _ b _ _ _ _ _ _ _=>b
 |_=>[]
def defScope (s:Stmt):Scope:=match s with
 | .FunctionDef _ _ _ _ _ _ sc _ _ _=>sc
 |_=>{kind:=.function,names:=[],isGenerator:=false,isCoroutine:=false}
abbrev CX0:CXT:=λ_ _ _ _ _ _=>False
abbrev E0:XK:=λ_ _ _=>False
theorem pass0 {X:Cx}:Passes CX0 X E0:=λ_ _ _ _ _ _ _ h=>h.elim
structure Fun (K:Frag) (x qual:Str) (st:Stmt) (f:Addr) (fd:FuncData):Prop where
 ex:∃(oc:Value) (od:Option Addr) (kV doc pm:Value) (an:Option Addr) (cdv ct:Value) (osl:Array (Option Value)),
  fd=fnOf x qual (defArgs st) (defBody st) (defScope st) .none kV doc pm an cdv ct/\K.lookup f=some ⟨oc,od,.func fd,osl⟩/\codeIn K cdv qual=true
 kp:keepIn K (.ref f)=true
section
variable {P:Program}{w:World}{K:Frag}{mg:Str->Option Value}{base:Heap}
theorem Fun.ok {x qual:Str}{st:Stmt}{f:Addr}{fd:FuncData}{N ps:List Str}{k:Nat}{sp:Sp}(F:Fun K x qual st f fd)(S:FnScope N ps (defScope st))(len:∀vs H Q E,sp vs H Q E->vs.length=ps.length)
  (hbody:∀(cdv:Value) (A:Around) (outer:List Env) (s:Shared) (H:Hp) (vs:List V) (Q:VK) (E:XK),Room k (A.deeper (envOfC qual (defScope st) s.heap.objs.size f cdv))->sp vs H Q E->
   ∃t,PSs (cxOf CX0 P w K mg base N qual (defScope st) f cdv A outer s H E).nox (defBody st) t/\t {nx:=λ_ H'=>Q .non H',rt:=Q} (start N vs) H):FnOk P w K mg base CX0 (k+1) f fd ps sp:=by
 obtain⟨oc,od,kV,doc,pm,an,cdv,ct,osl,rfl,lk,hcd⟩:=F.ex
 refine fn_of lk hcd S len λA outer s H vs Q E hr hsp=>?_
 obtain⟨t,h,q⟩:=hbody cdv A outer s H vs Q E hr hsp
 exact⟨t,h.nox,q⟩
theorem Fun.binds {x qual:Str}{st:Stmt}{f:Addr}{fd:FuncData}{ps:List Str}(F:Fun K x qual st f fd)
  (h:∀(kV doc pm:Value) (an:Option Addr) (cdv ct:Value) (us:List Value),us.length=ps.length->bindArgs (fnOf x qual (defArgs st) (defBody st) (defScope st) .none kV doc pm an cdv ct) ⟨us,[]⟩=pure (ps.zip us)):Binds K fd ps []:=by
 obtain⟨oc,od,kV,doc,pm,an,cdv,ct,osl,rfl,lk,hcd⟩:=F.ex
 exact .all (h kV doc pm an cdv ct)
theorem fun_mk {x qual:Str}{st:Stmt}{f:Addr}{oc:Value}{od an:Option Addr}{osl:Array (Option Value)}{kV doc pm cdv ct:Value}(l:K.lookup f=some ⟨oc,od,.func (fnOf x qual (defArgs st) (defBody st) (defScope st) .none kV doc pm an cdv ct),osl⟩)
  (c:codeIn K cdv qual=true) (k:keepIn K (.ref f)=true):Fun K x qual st f (fnOf x qual (defArgs st) (defBody st) (defScope st) .none kV doc pm an cdv ct):=⟨⟨oc,od,kV,doc,pm,an,cdv,ct,osl,rfl,l,c⟩,k⟩
end
section
variable {X:Cx}
theorem pv (i:Nat){x:Str}{pos:Pos}(hN:X.N[i]?=some x:=by rfl)(hv:Vis X.env.scope x:=by first |exact Or.inl rfl |exact Or.inr (Or.inl rfl) |exact Or.inr (Or.inr rfl))(hd:(x==("__debug__":Str))=false:=by decide)
  (hcd:(x==("__classdict__":Str))=false:=by decide):PE X (.Name x pos) (tVar i):=pe_var hN hv hd hcd
end
theorem iteF {A B:Prop}(h:B):if false=true then A else B:=by
 rw[if_neg Bool.false_ne_true]
 exact h
theorem iteT {A B:Prop}(h:A):if true=true then A else B:=by
 rw[if_pos rfl]
 exact h
def Same (H H':Hp):Prop:=∀b o,H b=some o->H' b=some o
theorem Same.refl (H:Hp):Same H H:=λ_ _ h=>h
theorem Same.trans {H H1 H2:Hp}(a:Same H H1)(b:Same H1 H2):Same H H2:=λc o h=>b c o (a c o h)
theorem Same.free {H H':Hp}(e:Same H H'){l:Addr}(h:H' l=Option.none):H l=Option.none:=by
 cases q:H l with
 |none=>rfl
 |some o=>
  rw[e l o q]at h
  cases h
theorem Same.seq {K:Frag}{H H':Hp}{a:Addr}{xs:List V}(e:Same H H')(h:SqL K H a xs):SqL K H' a xs:=by
 rcases h with (h | ⟨o,h⟩) |h
 .exact .inl (.inl (e _ _ h))
 .exact .inl (.inr ⟨o,e _ _ h⟩)
 .exact .inr h
end L2
set_option maxHeartbeats 4000000
namespace L2
open PySem PySem.Spec PyProof.Rows
structure DefAt (K:Frag) (mg:Str->Option Value) (x:Str) (st:Stmt) (f:Addr) (fd:FuncData):Prop where
 fn:Fun K x x st f fd
 here:mg x=some (.ref f)
structure Cal (P:Program) (w:World) (K:Frag) (mg:Str->Option Value) (base:Heap) (x:Str) (k:Nat) (ps:List Str) (sp:Sp):Prop where
 ex:∃f fd,FnOk P w K mg base CX0 k f fd ps sp/\mg x=some (.ref f)/\keepIn K (.ref f)=true/\Binds K fd ps []
theorem Cal.of {P:Program}{w:World}{K:Frag}{mg:Str->Option Value}{base:Heap}{x:Str}{st:Stmt}{f:Addr}{fd:FuncData}{N ps:List Str}{k:Nat}{sp:Sp}(D:DefAt K mg x st f fd)(S:FnScope N ps (defScope st))
  (hb:∀(kV doc pm:Value) (an:Option Addr) (cdv ct:Value) (us:List Value),us.length=ps.length->bindArgs (fnOf x x (defArgs st) (defBody st) (defScope st) .none kV doc pm an cdv ct) ⟨us,[]⟩=pure (ps.zip us))
  (len:∀vs H Q E,sp vs H Q E->vs.length=ps.length)
  (hbody:∀(cdv:Value) (A:Around) (outer:List Env) (s:Shared) (H:Hp) (vs:List V) (Q:VK) (E:XK),Room k (A.deeper (envOfC x (defScope st) s.heap.objs.size f cdv))->sp vs H Q E->
   ∃t,PSs (cxOf CX0 P w K mg base N x (defScope st) f cdv A outer s H E).nox (defBody st) t/\t {nx:=λ_ H'=>Q .non H',rt:=Q} (start N vs) H):Cal P w K mg base x (k+1) ps sp:=
 ⟨f,fd,D.fn.ok S len hbody,D.here,D.fn.kp,D.fn.binds hb⟩
theorem pe_cal (C:Cal X.prog X.w X.K X.mg X.base x k ps sp)(hr:Room k X.A)(hg:Gl X x)(ha:PA X (e::es) t)
  (hdb:(x==("__debug__":Str))=false:=by decide) (he:starEach (e::es) X.env=(false,eval e X.env)::starEach es X.env:=by rfl) (hpl:(backTo pos (starEach es X.env)).any (·.1)=false:=by rfl):
  PE X (.Call (.Name x p) (e::es) [] pos) (tCall sp [] E0 t):=by
 obtain⟨f,fd,F,hm,hk,hb⟩:=C.ex
 exact pe_call F hr hg hm hk hb .nil pass0 ha hdb he hpl
def spL (n:Nat)(R:List V->Hp->VK->Prop):Sp:=λvs H Q _=>vs.length=n/\R vs H Q
structure Blt (mg:Str->Option Value):Prop where
 len:mg "len"=none
 range:mg "range"=none
 max:mg "max"=none
 min:mg "min"=none
 isinstance:mg "isinstance"=none
 int:mg "int"=none
 bool:mg "bool"=none
 tuple:mg "tuple"=none
 list:mg "list"=none
 all:mg "all"=none
 zip:mg "zip"=none
 reversed:mg "reversed"=none
theorem Same.new (h:H p=none): Same H (upd H p o):=λb u e=>by rw[upd_ne (ne_of_none e h)];exact e
def spLaw (K:Frag):Sp:=spL 1 λvs H Q=>∃(a:Addr) (ns:List Int),vs=[.ref a]/\SqL K H a (ns.map V.int)/\ns.length<=63/\∀H',Q (.bl true) H'
theorem law_walk {l:PySem.W.OpenLaw}{k:Nat}{q:Program}{loose:List Str}{XP:(Str->Option Value)->Heap->Prop}{YP:World->Heap->Prop}{d:DefRec}{K:Params->Frag}(hn:l.most=some 63)(hdf:d.params.defaults=[])(hr:Room k callerA)
  (hY:∀(w:World) (h:Heap),YP w h->(K w.params).In h)
  (F:∀(w:World) (mg:Str->Option Value) (fa:Addr) (h:Heap),(K w.params).In h->h.Ns mainGlobals mg->mg d.name=some (.ref fa)->
   ∃fd:FuncData,(∀(s:Shared) (u:Value),BindsTo s fd ⟨[u],[]⟩ [("_law_script",u)])/\∀base:Heap,(K w.params).In base->base.Ns mainGlobals mg->FnOk l.prog w (K w.params) mg base CX0 k fa fd ["_law_script"] (spLaw (K w.params))):
  PySem.W.WalkO q loose XP YP l.row.toRowW d [] (λf vs=>PySem.call f vs):=
 L2.walk_of (n:=63) (k:=k) (x := "_law_script") (CX:=λ_=>CX0) (sp:=λw=>spLaw (K w.params)) hn (by decide) hdf hr hY F (λ_ _ a ns hl _ hS=>⟨rfl,a,ns,rfl,hS,hl,λ_=>rfl⟩) λ_ _ _ _ _ z=>z
section
variable {X:Cx}{e:Expr}{es:List Expr}{te:TE}{t:TA}{pos:Pos}
def tTupS (t:TA):TE:=λO H Q=>t O H λxs H1=>xs.length<=sizeLine/\∀p H',H1 p=none->Same H1 H'->H' p=some (.tup xs)->Q (.ref p) H'
def tLstS (t:TA):TE:=λO H Q=>t O H λxs H1=>xs.length<=sizeLine/\∀p H',H1 p=none->Same H1 H'->H' p=some (.lst xs)->Q (.ref p) H'
theorem pe_tupS {x1}(h:PA X es t): PE X (.Tuple es x1 pos) (tTupS t):=by
 intro pins s O H Q I hq
 refine wpAny_Tuple_spliced (thn (h pos pins s O H _ I hq) λus s1 ⟨xs,H1,I1,r,z,q⟩=>⟨by rw[<- r.length];exact z,?_⟩)
 have hf:H1 s1.heap.objs.size=none:=I1.hok.fresh (Nat.le_refl _)
 refine⟨.ref s1.heap.objs.size,upd H1 s1.heap.objs.size (.tup xs),I1.laid (t':=s1.toks) (λb u e=>get?_push_of_some _ e) (Nat.le_refl _) ?_,rfl,q _ _ hf (Same.new hf) upd_same⟩
 exact⟨z,us,r,⟨_,get?_push_size _ rfl,rfl,_,rfl⟩⟩
theorem pe_lstS (h:PA X es t): PE X (.List es pos) (tLstS t):=by
 intro pins s O H Q I hq
 refine wpAny_List_spliced (thn (h pos pins s O H _ I hq) λus s1 ⟨xs,H1,I1,r,z,q⟩=>⟨by rw[<- r.length];exact z,?_⟩)
 have hf:H1 s1.heap.objs.size=none:=I1.hok.fresh (Nat.le_refl _)
 refine⟨.ref s1.heap.objs.size,upd H1 s1.heap.objs.size (.lst xs),I1.laid (t':=s1.toks) (λb u e=>get?_push_of_some _ e) (Nat.le_refl _) ?_,rfl,q _ _ hf (Same.new hf) upd_same⟩
 exact⟨z,us,0,r,get?_push_size _ rfl⟩
end
theorem iteB {c:Bool}{A B:Prop}(hc:c=false)(h:B):if c=true then A else B:=by
 rw[hc];exact iteF h
def Itrs (lo c:Int)(n:Nat):It:=⟨λi _=>i<n,λi H x H'=>H'=H/\x = .int (lo+i*c),λi _=>n<=i⟩
theorem turn_rangeS {P:Program}{w:World}{K:Frag}{tg:Expr}(it:Addr)(lo c:Int)(n:Nat):Turn P w K tg (Itrs lo c n) [it] it (λi h=>IsRangeIter h it (lo+(i:Nat)*c) ((n:Int)-(i:Nat)) c) where
 mem:=by simp
 obj := λi h st b hb=>by
  have e:b=it:=by simpa using hb
  subst e
  exact⟨_,st,λv z=>by
   have z':Data.fields _=Data.cell v:=z
   cases z'⟩
 keep:=λi h h' st k=>k it (by simp) _ st
 item:=by
  kj_on
  obtain⟨f0,f1,f2,f3,f4,f5⟩:=hf it (by simp)
  have W:=Walks.range (prog:=X.prog) (w:=X.w) (I.ok.hd hc) it lo c n
  refine W.item i s _ _ hg st λv h' tk hv st' kk=>?_
  obtain⟨t,rfl⟩:=hv
  have I1:Inv X pins O H {s with heap:=h',toks:=tk}:=I.turned (λb o hb e=>kk b o (by simpa using hb) e) f0 f1 f3 f4 f5
  exact⟨_,rfl,go_of (s:={s with heap:=h',toks:=tk}) (n := "range_iterator") st' rfl rfl rfl ⟨.int (lo+i*c),H,I1,⟨t,rfl⟩,⟨rfl,rfl⟩,st',λb hb=>(hf b hb).1⟩⟩
 done:=by
  intro X hP hw hK hc i pins s O H E I hf st hg
  obtain⟨f0,f1,f2,f3,f4,f5⟩:=hf it (by simp)
  exact wpAny_pyNext_range_end (I.ok.hd hc) st (by have:n<=i:=hg;lia) λh' eb=>⟨rfl,I.turned (t':=s.toks) (λb o hb e=>eb b o hb e) f0 f1 f3 f4 f5⟩
 self:=λ_ _ _ _ _ st h=>wpAny_pyIter_rangeiter st h
theorem small_step (ha : -(2^61)<=a)(ha':a<2^61)(hb : -(2^61)<=b)(hb':b<2^61)(hc:0<c)(hc':c<2^61): Builtin.Range.small a b c=true:=by
 have h1:0<=Builtin.Range.rangeSize a b c/\Builtin.Range.rangeSize a b c<=2^62:=by
  unfold Builtin.Range.rangeSize
  rw[if_pos (show c > 0 from hc)]
  split
  .have e1:(b-a-1) / c<=b-a-1:=Int.ediv_le_self _ (by lia)
   have e2:0<=(b-a-1) / c:=ediv_nonneg (by lia) (by lia)
   lia
  .lia
 unfold Builtin.Range.small
 simp only[Builtin.Range.rangeFitsLong,and_eq_true,or_eq_true,decide_eq_true_eq,show c > 0 from hc,if_true]
 omega
section
variable {X:Cx}{tg:Expr}
def rngN (i j c:Int):Nat:=(Builtin.Range.rangeSize i j c).toNat
def iRng3 (ta:TA):TI:=λO H R=>ta O H λvs H1=>∃i j c:Int,vs=[.int i,.int j,.int c]/\(-(2^61)<=i/\i<2^61/\-(2^61)<=j/\j<2^61/\0<c/\c<2^29)/\R (Itrs i c (rngN i j c)) H1
theorem pi_range3 (hg:Gl X "range")(hm:X.mg "range"=none)(ha:PA X [a,b,d] ta)(hs:starEach [a,b,d] X.env=(false,eval a X.env)::starEach [b,d] X.env:=by rfl)
  (hpl:(backTo pos (starEach [b,d] X.env)).any (·.1)=false:=by rfl):
  PI X tg (.Call (.Name "range" p) [a,b,d] [] pos) (iRng3 ta):=by
 intro pins s O H R I h
 refine Call_ (ld_blt I hg hm boot_range (PyProof.Rows.callWith_type1 (thn (ha pos pins s O H _ I h) λus s1 ⟨vs,H1,I1,r1,q1⟩=>?_) hs hpl))
 obtain⟨i,j,c,e,⟨q1,q2,q3,q4,q5,q6⟩,q⟩:=q1
 subst e
 cases r1 with
 |cons r rr =>
  cases rr with
  |cons r' rr=>
   cases rr with
   |cons r'' rr=>
    cases rr
    obtain⟨t,rfl⟩:=r
    obtain⟨t',rfl⟩:=r'
    obtain⟨t'',rfl⟩:=r''
    refine PySem.call_range_3 (by lia) ?_ (.inl (PyProof.noPylong_small (by omega)))
    refine wpAny_pyIter_range (IsRange.new ..) (small_step q1 q2 q3 q4 q5 (by lia)) ?_
    have I2:Inv X pins O H1 {s1 with heap:=s1.heap.push {cls:=.type "range",data:=.fields #[.int i t,.int j t',.int c t'']},toks:=s1.toks}:=I1.kept λb o e=>get?_push_of_some _ e
    refine⟨(s1.heap.push {cls:=.type "range",data:=.fields #[.int i t,.int j t',.int c t'']}).objs.size,[(s1.heap.push {cls:=.type "range",data:=.fields #[.int i t,.int j t',.int c t'']}).objs.size],_,_,H1,rfl,
     I2.kept (t':=s1.toks) λb o e=>get?_push_of_some _ e,turn_rangeS _ i c (rngN i j c),?_,λb hb=>?_,q⟩
    .have e1:i+((0:Nat):Int)*c=i:=by simp
     have e2:((rngN i j c:Nat):Int)-((0:Nat):Int)=Builtin.Range.rangeSize i j c:=by
      have z:0<=Builtin.Range.rangeSize i j c:=by
       unfold Builtin.Range.rangeSize
       rw[if_pos (show c > 0 from q5)]
       split
       .have e2:0<=(j-i-1) / c:=ediv_nonneg (by lia) (by lia)
        omega
       .lia
      unfold rngN;lia
     rw[e1,e2]
     exact get?_push_size _ rfl
    .have e:b=(s1.heap.push {cls:=.type "range",data:=.fields #[.int i t,.int j t',.int c t'']}).objs.size:=by simpa using hb
     subst e
     exact I2.fpOk (Nat.le_refl _) (I2.hok.fresh (Nat.le_refl _))
end
section
variable {X:Cx}
theorem Vals.at (r:Vals xs its)(h:j<its.toArray.size): ∃x,xs[j]?=some x/\RelV x its.toArray[j]:=by
 have hl:=r.length
 have hj:j<xs.length:=by rw[size_toArray]at h;lia
 obtain⟨u,hu,ru⟩:=r.get (i:=j) (x:=xs[j]) (by simp)
 refine⟨xs[j],by simp,?_⟩
 have e:its.toArray[j]=u:=by
  have:its[j]?=some its.toArray[j]:=by simp at h ⊢<;>try exact h
  rw[this]at hu;exact Option.some.inj hu
 rw[e];exact ru
end
def freeL (scope:Scope)(env:Env):List (Str×Addr):=((scope.names.filter λx=>x.2 == .free).map λx=>(x.1,(env.cells.lookup x.1).getD 0)).reverse
theorem closureFor_go (env:Env): ∀(l:List (Str×NameKind)) (acc:List (Str×Addr)),(∀x∈l,x.2 = .free->∃c,env.cells.lookup x.1=some c)->
  (forIn l acc (λ(x:Str×NameKind) (r:List (Str×Addr))=>(match x with | (name,kind)=>if (kind==NameKind.free)=true then do let a <- cellOf env name;pure (ForInStep.yield ((name,a)::r)) else pure (ForInStep.yield r):Sem (ForInStep (List (Str×Addr)))))) =
   (pure (((l.filter λx=>x.2 == .free).map λx=>(x.1,(env.cells.lookup x.1).getD 0)).reverse++acc):Sem (List (Str×Addr)))
 | [],acc,_=>rfl
 | (n,k)::l,acc,h=>by
  rw[List.forIn_cons]
  by_cases hk:k = .free
  .subst hk
   obtain⟨c,hc⟩:=h (n,.free) mem_cons_self rfl
   have hc':env.cells.lookup n=some c:=hc
   have ih:=closureFor_go env l ((n,c)::acc) λx hx=>h x (mem_cons_of_mem _ hx)
   have e:cellOf env n=pure c:=by unfold cellOf;rw[hc']
   simp only[beq_self_eq_true,if_true,e,pure_bind]
   rw[ih]
   simp[hc']
  .have hb:(k==NameKind.free)=false:=by simpa using hk
   have ih:=closureFor_go env l acc λx hx=>h x (mem_cons_of_mem _ hx)
   simp only[hb,false_eq_true,if_false,pure_bind]
   rw[ih]
   simp[hb]
theorem closureFor_free (h:∀x∈scope.names,x.2 = .free->∃c,env.cells.lookup x.1=some c): closureFor scope env=pure (freeL scope env):=by
 have:=closureFor_go env scope.names [] h
 unfold closureFor freeL
 rw[append_nil]at this
 simp only[bind_pure]
 exact this
theorem freeL_lookup (x:Str): (freeL scope env).lookup x=if (scope.names.any λy=>y.1==x && y.2 == .free) then some ((env.cells.lookup x).getD 0) else none:=by
 have key:∀(l:List (Str×NameKind)),((l.filter λx=>x.2 == .free).map λx=>(x.1,(env.cells.lookup x.1).getD 0)).lookup x=if (l.any λy=>y.1==x && y.2 == .free) then some ((env.cells.lookup x).getD 0) else none:=by
  intro l
  induction l with
  |nil=>rfl
  |cons p l ih=>
   obtain⟨n,k⟩:=p
   by_cases hk:(k==NameKind.free)=true
   .rw [filter_cons,if_pos (show ((n,k).2==NameKind.free)=true from hk),map_cons,lookup_cons,ih]
    by_cases hn:n=x
    .subst hn;simp[hk]
    .have h1:(x==n)=false:=by simpa using λe=>hn e.symm
     have h2:(n==x)=false:=by simpa using hn
     simp[h1,h2]
   .have hk':(k==NameKind.free)=false:=by simpa using hk
    rw[filter_cons,if_neg (show ¬ ((n,k).2==NameKind.free)=true from hk),ih]
    simp[hk']
 have rev:(freeL scope env)=((scope.names.reverse.filter λx=>x.2 == .free).map λx=>(x.1,(env.cells.lookup x.1).getD 0)):=by
  unfold freeL
  rw[<- map_reverse,<- List.filter_reverse]
 rw[rev,key,List.any_reverse]
theorem compLoop_x {R:Result->Shared->Prop}(I:Nat->Shared->Prop)
  (turn : ∀n s,I n s->wpAny (model prog w) A (pyNext it) (λr s₁=>match r with
   |none=>R (.ok .next) s₁
   |some v=>wpAny (model prog w) A (letOwnedTupleGo target it v) (λ_ s₂=>wpAny (model prog w) A (assign target env v) (λ_ s₃=>wpAny (model prog w) A (eval elt env) (λx s₄=>
     wpAny (model prog w) A (call (.builtin "list.append") [acc,x]) (λ_ s₅=>∃m,m<n/\I m s₅) (λ_ _=>False) s₄) (notedBy (model prog w) A env λe s'=>R (.error e) s') s₃) (λ_ _=>False) s₂) (λ_ _=>False) s₁) (λ_ _=>False) s)
  (n:Nat) (h:I n s): codeAny (model prog w) A (.compLoop (.ListComp elt [⟨target,iter,[],0⟩] scope pos) 0 it acc env) R s:=by
 refine codeAny_loop rfl I (λn s hI=>?_) n h
 refine wpAny_noted ?_
 rw[compTurn_list1]
 refine wpAny_bind (wpAny_standAt (wpAny_bind (wpAny_mono (turn n s hI) (λr s₁ h₁=>?_) λ_ _ f=>f.elim)))
 cases r with
 |none=>exact wpAny_pure h₁
 |some v=>
  refine wpAny_bind (wpAny_mono h₁ (λ_ s₂ h₂=>?_) λ_ _ f=>f.elim)
  exact wpAny_bind (wpAny_mono h₂ (λ_ s₃ h₃=>wpAny_bind (wpAny_bind (wpAny_mono h₃ (λx s₄ h₄=>wpAny_bind (wpAny_mono h₄ (λ_ s₅ h₅=>wpAny_pure (wpAny_pure ⟨rfl,h₅⟩)) λ_ _ f=>f.elim)) λ_ _ f=>f))) λ_ _ f=>f.elim)
theorem relabel_lookup (x:Str): (relabel scope env).names.lookup x=(scope.names.lookup x).map λk=>if (k==NameKind.free && env.scope.kind == .function && env.kindOf x==some .cell)=true then NameKind.cell else k:=by
 have key:∀l:List (Str×NameKind),(l.map λ(n,k)=>if (k==NameKind.free && env.scope.kind == .function && env.kindOf n==some .cell) then (n,NameKind.cell) else (n,k)).lookup x =
   (l.lookup x).map λk=>if (k==NameKind.free && env.scope.kind == .function && env.kindOf x==some .cell)=true then NameKind.cell else k:=by
  intro l
  induction l with
  |nil=>rfl
  |cons p l ih=>
   obtain⟨n,k⟩:=p
   rw[map_cons]
   by_cases hn:x=n
   .subst hn
    by_cases hc:(k==NameKind.free && env.scope.kind == .function && env.kindOf x==some .cell)=true
    .simp only[hc,if_true,lookup_cons,beq_self_eq_true,map_some]
    .simp only[if_neg hc,lookup_cons,beq_self_eq_true,map_some]
   .have hb:(x==n)=false:=by simpa using hn
    by_cases hc:(k==NameKind.free && env.scope.kind == .function && env.kindOf n==some .cell)=true
    .simp only[hc,if_true,lookup_cons,hb];exact ih
    .simp only[if_neg hc,lookup_cons,hb];exact ih
 exact key scope.names
def blkσ (ix:List (Option Nat))(O:St):St:=ix.map λo=>o.bind λi=>(O[i]?).join
def CapOf (X:Cx)(scope:Scope):List Str->List (Option Nat)->Prop
 | [],[]=>True
 |_::N,none::ix=>CapOf X scope N ix
 |x::N,some i::ix=>(X.N[i]?=some x/\scope.names.lookup x=some .free/\(X.env.kindOf x=some .cell∨X.env.kindOf x=some .free))/\CapOf X scope N ix
 |_,_=>False
theorem CapOf.get:∀{N:List Str} {ix:List (Option Nat)},CapOf X scope N ix->N.length=ix.length/\∀(j i:Nat),ix[j]?=some (some i)->
  ∃x,N[j]?=some x/\X.N[i]?=some x/\scope.names.lookup x=some .free/\(X.env.kindOf x=some .cell∨X.env.kindOf x=some .free)
 | [],[],_=>⟨rfl,λj i h=>by simp at h⟩
 |x::N,none::ix,h=>by
  obtain⟨h1,h2⟩:=CapOf.get (show CapOf X scope N ix from h)
  refine⟨by simp[h1],λj i e=>?_⟩
  cases j with
  |zero=>simp at e
  |succ j=>simpa using h2 j i e
 |x :: N,some i'::ix,h=>by
  obtain⟨h0,h⟩:=(show _/\CapOf X scope N ix from h)
  obtain⟨h1,h2⟩:=CapOf.get h
  refine⟨by simp[h1],λj i e=>?_⟩
  cases j with
  |zero=>
   simp at e
   subst e
   exact⟨x,rfl,h0⟩
  |succ j=>simpa using h2 j i e
 | [],_::_,h=>h.elim
 |_::_,[],h=>by cases h
structure BlkScope (outer scope:Scope):Prop where
 kind:scope.kind = .function
 cell:∀y∈scope.names,y.2≠.cell
 free:∀y∈scope.names,y.2 = .free->outer.names.lookup y.1=some .cell∨outer.names.lookup y.1=some .free
 names:∀y∈scope.names,y.2 = .local->scope.names.lookup y.1=some .local
abbrev Cx.blk (X:Cx)(scope:Scope)(N:List Str)(fp:List Addr)(s:Shared)(H:Hp):Cx:=
 {X with N:=N,s₀:=s,H₀:=H,env:=compEnvC scope (freeL scope X.env) s.heap.objs.size X.env,outer:=X.stack,ex:=fp,fn:=λ_=>false,pn:=[],xe:=λ_ _=>False}
section
variable {X:Cx}{pins:List (Addr×Obj)}{O:St}{H:Hp}{s:Shared}{scope:Scope}{N:List Str}{ix:List (Option Nat)}{fp:List Addr}
theorem blk_cell (ok:X.Ok)(S:BlkScope X.env.scope scope)(h:(freeL scope X.env).lookup x=some c): X.env.cells.lookup x=some c:=by
 rw[freeL_lookup]at h
 split at h
 .rename_i ha
  obtain⟨y,hy,e⟩:=any_eq_true.mp ha
  rw[and_eq_true,beq_iff_eq,beq_iff_eq]at e
  obtain⟨e1,e2⟩:=e
  subst e1
  obtain⟨c',hc'⟩:=ok.has y.1 (S.free y hy e2)
  rw[hc']at h ⊢
  exact h
 .cases h
theorem blk_free (ok:X.Ok)(h:scope.names.lookup x=some .free)(hk:X.env.kindOf x=some .cell∨X.env.kindOf x=some .free): ∃c,(freeL scope X.env).lookup x=some c/\X.env.cells.lookup x=some c:=by
 obtain⟨c,hc⟩:=ok.has x hk
 refine⟨c,?_,hc⟩
 rw[freeL_lookup,if_pos,hc]
 .rfl
 .exact any_eq_true.mpr ⟨(x,.free),PySem.mem_of_lookup h,by simp⟩
theorem Inv.blkOk (I:Inv X pins O H s)(S:BlkScope X.env.scope scope)(hf:∀b∈fp,FpOk X pins H b)(hlt:∀b∈fp,b<s.heap.objs.size): (X.blk scope N fp s H).Ok where
 mod:=I.ok.mod
 kind:=S.kind
 glob:=I.ok.glob
 blt:=I.ok.blt
 above:=Nat.le_refl _
 inj:=λx y c h1 h2=>I.ok.inj x y c (blk_cell I.ok S h1) (blk_cell I.ok S h2)
 has := λx hx=>by
  have hx':(relabel scope X.env).names.lookup x=some .cell∨(relabel scope X.env).names.lookup x=some .free:=hx
  rw[relabel_lookup]at hx'
  cases e:scope.names.lookup x with
  |none=>rw[e]at hx';simp at hx'
  |some k=>
   have hm:=PySem.mem_of_lookup e
   have hk:k = .free:=by
    by_cases hk:k = .free
    .exact hk
    .exfalso
     have hb:(k==NameKind.free)=false:=by simpa using hk
     have hc:k≠.cell:=S.cell _ hm
     have e2:(if (k==NameKind.free && X.env.scope.kind == .function && X.env.kindOf x==some .cell)=true then NameKind.cell else k)=k:=if_neg (by rw[hb,Bool.false_and];exact Bool.false_ne_true)
     rw[e,map_some,e2]at hx'
     rcases hx' with z |z
     .exact hc (Option.some.inj z)
     .exact hk (Option.some.inj z)
   subst hk
   obtain⟨c,h1,_⟩:=blk_free I.ok e (S.free _ hm rfl)
   exact⟨c,h1⟩
 cab:=λx c h _=>by cases h
 hd:=I.ok.hd
 frames:=I.ok.frames
 stk:=.inl rfl
 exf:=λb hb=>⟨ne_of_lt (hlt b hb),λx c h=>(hf b hb).2.2.2.2.1 x c (blk_cell I.ok S h)⟩
 bs:=I.bs
 bsz:=Nat.le_trans I.ok.bsz I.sz
 noex:=λb o e hb=>by
  rcases (hf b hb).2.2.2.1 with z |z
  .exact I.ok.noex b o e z
  .exact absurd (lt_of_lt_of_le (lt_size e) (Nat.le_trans I.ok.bsz z)) (lt_irrefl _)
 exfs:=λb hb h=>by
  rcases mem_cons.mp (I.stkSub b h) with z |z
  .exact (hf b hb).2.1 z
  .exact (hf b hb).2.2.1 z
 funs:=I.stack
 frf:=I.stkFree
theorem Inv.blk {m:Str->Option Value}(I:Inv X pins O H s)(S:BlkScope X.env.scope scope)(cap:CapOf X scope N ix)(hf:∀b∈fp,FpOk X pins H b)(hlt:∀b∈fp,b<s.heap.objs.size)
  (hns:h₁.Ns s.heap.objs.size m) (hsb:Heap.SameBut s.heap.objs.size (s.heap.push o) h₁): Inv (X.blk scope N fp s H) [] (blkσ ix O) H {s with heap:=h₁,toks:=t}:=by
 have keep:∀b o,s.heap.get? b=some o->h₁.get? b=some o:=λb o e=>hsb.extBut b o (ne_of_lt (lt_size e)) (get?_push_of_some _ e)
 obtain⟨hl,hcap⟩:=cap.get
 refine⟨I.blkOk S hf hlt,rfl,I.bare,Un.kept keep,⟨m,hns,λj x v e1 e2 e3=>?_⟩,λx c e=>?_,I.hok.fresh (Nat.le_refl _),λx c e=>I.freeC x c (blk_cell I.ok S e),λp hp=>absurd (show p∈([]:List (Addr×Obj)) from hp) (by simp),I.hok.kept keep,by unfold blkσ;rw[length_map];exact hl.symm⟩
 .obtain ⟨i,h1,h2⟩:∃i,ix[j]?=some (some i)/\O[i]?=some (some v):=by
   unfold blkσ at e2
   rw[getElem?_map]at e2
   cases q:ix[j]? with
   |none=>rw[q]at e2;cases e2
   |some o=>
    rw[q]at e2
    cases o with
    |none=>simp at e2
    |some i=>
     refine⟨i,rfl,?_⟩
     cases q2:O[i]? with
     |none=>simp[q2]at e2
     |some o2=>simp[q2]at e2;rw[e2]
  obtain⟨y,n1,n2,n3,n4⟩:=hcap j i h1
  have hxy:x=y:=by rw[e1]at n1;exact Option.some.inj n1
  subst hxy
  obtain⟨m',hn',hl'⟩:=I.loc
  have vis:Vis X.env.scope x:=by rcases n4 with k |k;exact .inr (.inl k);exact .inr (.inr k)
  obtain⟨u,r,l⟩:=hl' i x v n2 h2 vis
  refine⟨u,r,.inr ⟨?_,?_⟩⟩
  .show (relabel scope X.env).names.lookup x=some .cell∨(relabel scope X.env).names.lookup x=some .free
   rw[relabel_lookup,n3]
   by_cases hc:(NameKind.free==NameKind.free && X.env.scope.kind == .function && X.env.kindOf x==some .cell)=true
   .left;simp only[map_some,if_pos hc]
   .right;simp only[map_some,if_neg hc]
  .obtain ⟨c,c1,c2⟩:=blk_free I.ok n3 n4
   refine⟨c,c1,?_⟩
   rcases l with⟨hk,_⟩ | ⟨_,c',hc',z⟩
   .rcases n4 with k |k
    .rw [hk]at k;cases k
    .rw [hk]at k;cases k
   .rw [c2]at hc';cases hc'
    obtain⟨ob,ho,hd⟩:=z
    exact⟨ob,keep _ _ ho,hd⟩
 .obtain ⟨v,ob,ho,hd⟩:=I.cell x c (blk_cell I.ok S e)
  exact⟨v,ob,keep _ _ ho,hd⟩
theorem Inv.unblk (I:Inv X pins O H s)(hf:∀b∈fp,FpOk X pins H b)(J:Inv (X.blk scope N fp s H) pins' O' H' s'): Inv X pins O H' s':=
 I.call' J.os J.base J.hok J.bare λb hb=>⟨(hf b hb).2.2.2.1,(hf b hb).2.1,(hf b hb).2.2.2.2.1,(hf b hb).2.2.2.2.2⟩
theorem Inv.frameGone (I:Inv X pins O H s)(f:FpOk X pins H C)(hs:Heap.SameBut C s.heap h'): Inv X pins O H {s with heap:=h'}:=
 I.turned (t':=s.toks) (λb o hb e=>hs.extBut b o hb e) f.1 f.2.1 f.2.2.2.1 f.2.2.2.2.1 f.2.2.2.2.2
end
def CompW (J:It)(D:Addr)(g:TG)(te:TE)(O₀:St)(H₀:Hp)(fin:Hp->Prop):Prop:=
 ∃W:Nat->Nat->St->List V->Hp->Prop,(∃m,W 0 m O₀ [] H₀)/\∀i m O ys H,W i m O ys H->
  (J.stop i H/\fin H)∨(ys.length<sizeLine/\J.go i H/\∀x H',J.yld i H x H'->g x O H' λO2 H2=>te O2 H2 λy H3=>H3 D=some (.lst ys)/\∃m',m'<m/\W (i+1) m' O2 (ys++[y]) (upd H3 D (.lst (ys++[y]))))
def tComp (wi:TI)(ix:List (Option Nat))(g:TG)(te:TE):TE:=λO H Q=>wi O H λJ H1=>∀D,H1 D=none->CompW J D g te (blkσ ix O) (upd H1 D (.lst [])) λH'=>Q (.ref D) H'
section
variable {X:Cx}{tg elt iter:Expr}{scope:Scope}{N:List Str}{ix:List (Option Nat)}{wi:TI}{g:TG}{te:TE}{pos:Pos}
theorem comp_coreG {RR:Value->Addr->Result->Shared->Prop}(hc:X.calm=true)(hi:PI X tg iter wi)(S:BlkScope X.env.scope scope)(cap:CapOf X scope N ix)
  (hg:∀fp s H,PG (X.blk scope N fp s H) tg g) (I:Inv X pins O H s) (h:tComp wi ix g te O H Q)
  (he:∀D fp s3 H3 pins' s7 O7 H7 Q',Inv X pins O H3 s3->(∀b∈fp,FpOk X pins H3 b)->Inv (X.blk scope N fp s3 H3) pins' O7 H7 s7->te O7 H7 Q'->wpAny (model X.prog X.w) X.A (eval elt (compEnvC scope (freeL scope X.env) s3.heap.objs.size X.env)) (EP (X.blk scope N fp s3 H3) pins' O7 Q') (notedBy (model X.prog X.w) X.A (compEnvC scope (freeL scope X.env) s3.heap.objs.size X.env) λe s'=>RR (.ref D) s3.heap.objs.size (.error e) s') s7)
  (hRR:∀D C H' s',Inv X pins O H' s'->FpOk X pins H' C->(∃m,s'.heap.Ns C m)->Q (.ref D) H'->RR (.ref D) C (.ok .next) s'):
  wpAny (model X.prog X.w) X.A (eval iter X.env) (λx s₁=>wpAny (model X.prog X.w) X.A (pyIter x) (λit s₂=>wpAny (model X.prog X.w) X.A (newList []) (λacc s₃=>
   wpAny (model X.prog X.w) X.A (newFunctionEnv scope X.env.globals (freeL scope X.env) [] X.env.qual none .none (some X.env)) (λcenv s₄=>
    codeAny (model X.prog X.w) X.A (.compStart (.ListComp elt [⟨tg,iter,[],0⟩] scope pos) 0 it acc {cenv with scope:=relabel scope X.env}) (RR acc cenv.locals) s₄) X.xe s₃) X.xe s₂) X.xe s₁) X.xe s:=by
 refine thn (hi pins s O H _ I h) λv s1 h1=>thn h1 λitv s2 h2=>?_
 obtain⟨it,fp,tn,J,H2,e,I2,T,st2,f2,R⟩:=h2
 subst e
 refine wpAny_newObj_type (wpAny_newFunctionEnv S.cell (by intro y hy;simp at hy) (λh₁ hns₁ hsb₁=>?_) S.kind)
 dsimp only at hns₁ hsb₁ ⊢
 have I3:Inv X pins O (upd H2 s2.heap.objs.size (.lst [])) {s2 with heap:=s2.heap.push {cls:=.type "list",data:=.seq ([]:List Value).toArray},toks:=s2.toks}:=I2.lnew .nil (zero_le _)
 have hD:H2 s2.heap.objs.size=none:=I2.fresh
 have lt2:∀b∈fp,b<s2.heap.objs.size:=λb hb=>by obtain⟨o,e,_⟩:=T.obj 0 _ st2 b hb;exact lt_size e
 obtain⟨W,⟨m0,w0⟩,turn⟩:=R s2.heap.objs.size hD
 generalize hs3:({s2 with heap:=s2.heap.push {cls:=.type "list",data:=.seq ([]:List Value).toArray},toks:=s2.toks}:Shared)=s3 at I3
 have e3:s3.heap=s2.heap.push {cls:=.type "list",data:=.seq ([]:List Value).toArray}:=by rw[<- hs3]
 have sz3:s3.heap.objs.size=s2.heap.objs.size+1:=by rw[e3,size_push]
 have f3:∀b∈fp,FpOk X pins (upd H2 s2.heap.objs.size (.lst [])) b:=λb hb=>⟨by rw[upd_ne (ne_of_lt (lt2 b hb))];exact (f2 b hb).1,(f2 b hb).2⟩
 have lt3:∀b∈fp,b<s3.heap.objs.size:=λb hb=>by rw[sz3];exact lt_succ_of_lt (lt2 b hb)
 have hns₁':=hns₁
 rw[<- e3]at hns₁'
 have hsb₁':=hsb₁
 rw[<- e3]at hsb₁'
 have J0:=I3.blk (t:=s2.toks+([]:List (Str×Value)).length) S cap f3 lt3 hns₁' hsb₁'
 have keep1:∀b o,s2.heap.get? b=some o->h₁.get? b=some o:=λb o e=>hsb₁.extBut b o (by rw[size_push];exact ne_of_lt (lt_succ_of_lt (lt_size e))) (get?_push_of_some _ (get?_push_of_some _ e))
 have st1:tn 0 h₁:=T.keep 0 _ _ st2 λb _ o e=>keep1 b o e
 have stat:∀{H':Hp},(∀b∈fp,H' b=none)->∀b∈fp,FpOk (X.blk scope N fp s3 (upd H2 s2.heap.objs.size (.lst []))) [] H' b:=λ{H'} hn b hb=>by
  refine⟨hn b hb,ne_of_lt (lt3 b hb),λz=>?_,.inl hb,λx c e=>(f2 b hb).2.2.2.2.1 x c (blk_cell I.ok S e),λp hp=>absurd (show p∈([]:List (Addr×Obj)) from hp) (by simp)⟩
  rcases mem_cons.mp (I3.stkSub b z) with y |y
  .exact (f2 b hb).2.1 y
  .exact (f2 b hb).2.2.1 y
 have loop:∀s4:Shared,s4={s3 with heap:=h₁,toks:=s2.toks+([]:List (Str×Value)).length}->
   codeAny (model X.prog X.w) X.A (.compLoop (.ListComp elt [⟨tg,iter,[],0⟩] scope pos) 0 (.ref it) (.ref s2.heap.objs.size) (compEnvC scope (freeL scope X.env) s3.heap.objs.size X.env)) (RR (.ref s2.heap.objs.size) s3.heap.objs.size) s4:=by
  rintro s4 rfl
  refine compLoop_x (λn s'=>∃i O' ys H',Inv (X.blk scope N fp s3 (upd H2 s2.heap.objs.size (.lst []))) [] O' H' s'/\tn i s'.heap/\(∀b∈fp,H' b=none)/\W i n O' ys H') ?_ m0 ⟨0,_,[],_,J0,st1,λb hb=>(f3 b hb).1,w0⟩
  rintro n s' ⟨i,O',ys,H',I',st',fr',w'⟩
  rcases turn i n O' ys H' w' with⟨stop,fin⟩ | ⟨hy,go,step⟩
  .refine thn (T.done (X.blk scope N fp s3 (upd H2 s2.heap.objs.size (.lst []))) rfl rfl rfl hc i [] s' O' H' _ I' (stat fr') st' stop) λr s5 ⟨hr,I5⟩=>?_
   subst hr
   obtain⟨m,hn,_⟩:=I5.loc
   exact hRR _ _ H' s5 (I3.unblk f3 I5) (I3.fpOk (Nat.le_refl _) I5.free) ⟨m,hn⟩ fin
  .refine thn (T.item (X.blk scope N fp s3 (upd H2 s2.heap.objs.size (.lst []))) rfl rfl rfl hc i [] s' O' H' _ I' (stat fr') st' go) λr s5 ⟨u,hr,h5⟩=>?_
   subst hr
   refine thn h5 λ_ s6 ⟨x,H6,I6,r6,y6,st6,fr6⟩=>?_
   have I6':=I6.pinned (stat fr6) (T.obj _ _ st6)
   refine thn (hg fp s3 _ _ s6 O' H6 x u _ I6' r6 (step x H6 y6)) λ_ s7 ⟨O7,H7,I7,q7⟩=>?_
   refine wpAny_mono (he s2.heap.objs.size fp s3 _ _ s7 O7 H7 _ I3 f3 I7 q7) (λyv s8 ⟨y,H8,I8,r8,hl8,m',hm',w8⟩=>?_) λ_ _ z=>z
   refine thn (mt_append _ s8 O7 H8 (.ref s2.heap.objs.size) [y] (.ref s2.heap.objs.size) [yv] (λ_ H9=>H9=upd H8 s2.heap.objs.size (.lst (ys++[y]))) I8 rfl (.cons r8 .nil) ⟨_,ys,y,rfl,rfl,hl8,hy,rfl⟩) λ_ s9 ⟨_,H9,I9,_,e9⟩=>?_
   subst e9
   refine⟨m',hm',i+1,O7,ys++[y],_,I9.unpinned,T.keep _ _ _ st6 λb hb o e=>(I9.pin (b,o) (mem_append_right _ (mem_append_right _ (mem_pinsAt hb e)))).1,λb hb=>?_,w8⟩
   obtain⟨o,e,_⟩:=T.obj _ _ st6 b hb
   exact (I9.pin (b,o) (mem_append_right _ (mem_append_right _ (mem_pinsAt hb e)))).2.1
 have fin:=loop _ rfl
 rw[<- hs3]at fin
 exact codeAny_compStart_list fin (T.self _ 0 _ _ _ st1 fin)
theorem comp_core {RR:Value->Addr->Result->Shared->Prop}(hc:X.calm=true)(hi:PI X tg iter wi)(S:BlkScope X.env.scope scope)(cap:CapOf X scope N ix)
  (hg:∀fp s H,PG (X.blk scope N fp s H) tg g) (he:∀fp s H,PE (X.blk scope N fp s H) elt te) (I:Inv X pins O H s) (h:tComp wi ix g te O H Q)
  (hRR:∀D C H' s',Inv X pins O H' s'->FpOk X pins H' C->(∃m,s'.heap.Ns C m)->Q (.ref D) H'->RR (.ref D) C (.ok .next) s'):
  wpAny (model X.prog X.w) X.A (eval iter X.env) (λx s₁=>wpAny (model X.prog X.w) X.A (pyIter x) (λit s₂=>wpAny (model X.prog X.w) X.A (newList []) (λacc s₃=>
   wpAny (model X.prog X.w) X.A (newFunctionEnv scope X.env.globals (freeL scope X.env) [] X.env.qual none .none (some X.env)) (λcenv s₄=>
    codeAny (model X.prog X.w) X.A (.compStart (.ListComp elt [⟨tg,iter,[],0⟩] scope pos) 0 it acc {cenv with scope:=relabel scope X.env}) (RR acc cenv.locals) s₄) X.xe s₃) X.xe s₂) X.xe s₁) X.xe s:=
 comp_coreG hc hi S cap hg I h (λD fp s3 H3 pins' s7 O7 H7 Q' _ _ I7 q=>wpAny_mono (he fp s3 H3 pins' s7 O7 H7 Q' I7 q) (λ_ _ z=>z) λ_ _ z=>z.elim) hRR
theorem blk_clos (S:BlkScope X.env.scope scope)(ok:X.Ok): closureFor scope X.env=pure (freeL scope X.env):=closureFor_free λx hx e=>ok.has x.1 (S.free x hx e)
theorem pe_comp (hc:X.calm=true)(hi:PI X tg iter wi)(S:BlkScope X.env.scope scope)(cap:CapOf X scope N ix)(hg:∀fp s H,PG (X.blk scope N fp s H) tg g)(he:∀fp s H,PE (X.blk scope N fp s H) elt te)
  (hs:∀x,foldedSetIterable iter X.env x=pure x:=by intro _;rfl): PE X (.ListComp elt [⟨tg,iter,[],0⟩] scope pos) (tComp wi ix g te):=by
 intro pins s O H Q I h
 refine wpAny_comprehension_free rfl hs (blk_clos S I.ok) S.kind S.names (comp_core (RR:=λacc C=>compPost (model X.prog X.w) X.A X.xe none (EP X pins O Q) acc C) hc hi S cap hg he I h λD C H' s' I' f' hn q=>?_)
 obtain⟨m,hn⟩:=hn
 exact⟨m,hn,λh' hs'=>⟨.ref D,H',I'.frameGone f' hs',rfl,q⟩⟩
theorem ps_setComp (hN:X.N.Nodup)(hiN:X.N[i]?=some y)(hy:Loc X.env.scope y)(hc:X.calm=true)(hi:PI X tg iter wi)(S:BlkScope X.env.scope scope)(cap:CapOf X scope N ix)
  (hg:∀fp s H,PG (X.blk scope N fp s H) tg g) (he:∀fp s H,PE (X.blk scope N fp s H) elt te)
  (hsw:swapsWith (.ListComp elt [⟨tg,iter,[],0⟩] scope pos) (some (.Name y py)) spos.line X.env=pure true:=by rfl)
  (hs:∀x,foldedSetIterable iter X.env x=pure x:=by intro _;rfl) (hf:X.fn y=true∨X.env.scope.names.lookup y=some .local:=by first |exact .inl rfl |exact .inr rfl |assumption):
  PS X (.Assign [.Name y py] (.ListComp elt [⟨tg,iter,[],0⟩] scope pos) spos) (tAsg (tComp wi ix g te) (gName i)):=by
 intro pins s O H D I h
 rw[exec_Assign_Name_used _ _ _ _ hsw]
 refine wpAny_bind (wpAny_standAt (wpAny_bind ?_))
 refine wpAny_bind (wpAny_mono (wpAny_comprehension_free (use:=some (assign (.Name y py) X.env)) (Q:=λ_ s'=>SP X pins D .next s') rfl hs (blk_clos S I.ok) S.kind S.names
  (comp_core (RR:=λacc C=>compPost (model X.prog X.w) X.A X.xe (some (assign (.Name y py) X.env)) (λ_ s'=>SP X pins D .next s') acc C) hc hi S cap hg he I h λl C H' s' I' f' hn q=>?_)) (λ_ s' hq=>wpAny_pure (wpAny_pure hq)) λ_ _ e=>e)
 obtain⟨m,hn⟩:=hn
 refine wpAny_assign_Name (store_ok2 (v:=.ref l) I' hN hiN hy rfl (λs'' I'' ⟨a,hsb,ha⟩=>?_) hf)
 have hCa:C≠a:=by
  rcases ha with z |z
  .rw [z];exact f'.2.1
  .exact Ne.symm (f'.2.2.2.2.1 y a z)
 exact⟨m,hn.sameBut hsb hCa,λh' hs'=>⟨_,H',I''.frameGone f' hs',q⟩⟩
end
section
variable {X:Cx}
set_option exponentiation.threshold 5000 in
end
section
variable {X:Cx}
theorem CallR.imp {f:Value}{r r':List V->Hp->VK->Prop}(h:CallR X f r)(hi:∀xs H Q,r' xs H Q->r xs H Q):CallR X f r':=λpins s O H xs us Q I rs q=>h pins s O H xs us Q I rs (hi xs H Q q)
def rListS (K:Frag):List V->Hp->VK->Prop:=λxs H Q=>∃p ys,xs=[.ref p]/\(SqL K H p ys∨SqT K H p ys)/\∀l H',H l=none->Same H H'->H' l=some (.lst ys)->Q (.ref l) H'
def rTupleS (K:Frag):List V->Hp->VK->Prop:=λxs H Q=>∃p ys,xs=[.ref p]/\SqL K H p ys/\∀l H',H l=none->Same H H'->H' l=some (.tup ys)->Q (.ref l) H'
theorem call_listS:CallR X (.type "list") (rListS X.K):=call_list_of.imp λxs H Q ⟨p,ys,e,h,q⟩=>⟨p,ys,e,h,λl hl=>q l _ hl (Same.new hl) upd_same⟩
theorem call_tupleS:CallR X (.type "tuple") (rTupleS X.K):=call_tuple_of.imp λxs H Q ⟨p,ys,e,h,q⟩=>⟨p,ys,e,.inl ⟨h,λl hl=>q l _ hl (Same.new hl) upd_same⟩⟩
def rSlS (K:Frag):V->Option Int->Option Int->Hp->VK->Prop:=λx lo hi H Q=>∃a xs,x = .ref a/\SqL K H a xs/\∀p H',H p=none->Same H H'->H' p=some (.lst (cutV xs lo hi))->Q (.ref p) H'
theorem SlR.imp {r r':V->Option Int->Option Int->Hp->VK->Prop}(h:SlR X r)(hi:∀x lo hi H Q,r' x lo hi H Q->r x lo hi H Q):SlR X r':=λpins s O H x v vl vu lo hi' sl Q I rx hs pl pu q=>h pins s O H x v vl vu lo hi' sl Q I rx hs pl pu (hi _ _ _ _ _ q)
theorem sl_listS:SlR X (rSlS X.K):=sl_list.imp λx lo hi H Q ⟨a,xs,e,h,q⟩=>⟨a,xs,e,h,λp hp=>q p _ hp (Same.new hp) upd_same⟩
def rCatTS (K:Frag):R2:=λx y H Q=>∃a b xs ys,x = .ref a/\y = .ref b/\SqT K H a xs/\SqT K H b ys/\xs≠[]/\ys≠[]/\xs.length+ys.length<=sizeLine/\∀p H',H p=none->Same H H'->H' p=some (.tup (xs++ys))->Q (.ref p) H'
theorem op_catTS:OpR X (binaryOp .Add) (rCatTS X.K):=λpins s O H x y v u Q I rx ry ⟨a,b,xs,ys,e1,e2,h1,h2,n1,n2,hz,q⟩=>
 op_catT pins s O H x y v u Q I rx ry ⟨a,b,xs,ys,e1,e2,h1,h2,n1,hz,λz=>absurd z n2,λ_ p hp=>q p _ hp (Same.new hp) upd_same⟩
end
end L2
namespace PySem
namespace F
theorem lwrev_owner:Manifest.owners.lookup (String.ofList ['d','e','s','r','e','v','e','r'].reverse)=some Manifest.sig_reversed:=by kernel_rfl
theorem lwrev_next:Slot "reversed" "__next__" "reversed.__next__":=
 .of (owner := "reversed") (n := "__next__") (by rw[typeLookup_type,builtinLookup_eq_fast];kernel_rfl) (by decide +kernel) (by decide +kernel) (by decide +kernel)
  (by first |exact .inl (by decide +kernel) |exact .inr (by decide +kernel)) (by rw[isSubtype_type];kernel_rfl)
theorem lwrev_entry:entryFor table "reversed.__next__"=some Builtin.«reversed.__next__»:=entryFor_of_tree (by kernel_rfl)
theorem lwrev_args (a:Value):argsOk "reversed.__next__" ⟨[a],[]⟩:=by
 unfold argsOk;rw[signature?_of (id := "reversed.__next__") (n:=['_','_','t','x','e','n','_','_']) (o:=['d','e','s','r','e','v','e','r']) (by kernel_rfl) lwrev_owner];kernel_rfl
theorem lwrev_iter:Slot "reversed" "__iter__" "reversed.__iter__":=
 .of (owner := "reversed") (n := "__iter__") (by rw[typeLookup_type,builtinLookup_eq_fast];kernel_rfl) (by decide +kernel) (by decide +kernel) (by decide +kernel)
  (by first |exact .inl (by decide +kernel) |exact .inr (by decide +kernel)) (by rw[isSubtype_type];kernel_rfl)
theorem lwrev_iargs (a:Value):argsOk "reversed.__iter__" ⟨[a],[]⟩:=by
 unfold argsOk;rw[signature?_of (id := "reversed.__iter__") (n:=['_','_','r','e','t','i','_','_']) (o:=['d','e','s','r','e','v','e','r']) (by kernel_rfl) lwrev_owner];kernel_rfl
theorem lwrev_ientry:entryFor table "reversed.__iter__"=some Builtin.«dict_keyiterator.__iter__»:=
 entryFor_alias (id' := "dict_keyiterator.__iter__") (by kernel_rfl) (by first |rfl |decide +kernel | (unfold String.splitOn;simp +decide [String.splitOnAux])) (by decide +kernel) (by kernel_rfl)
theorem lwrev_mro:mroOf (.type "reversed")=pure [.type "reversed",.type "object"]:=by rw[mroOf_type];kernel_rfl
theorem lwrev_newAt:typeLookup (.type "reversed") "__new__"=pure (some (.builtin "reversed.__new__")):=by rw[typeLookup_type,builtinLookup_eq_fast];kernel_rfl
theorem lwrev_made:Bind.madeBy (.type "reversed")=pure (some "reversed.__new__"):=madeBy_type lwrev_mro lwrev_newAt (by decide +kernel)
theorem lwrev_typeCall (a:Value):checkTypeCall "reversed" ⟨[a],[]⟩=pure ():=by kernel_rfl
theorem lwrev_newCall (a:Value):checkBuiltinCall "reversed.__new__" ⟨[.type "reversed",a],[]⟩=pure ():=by kernel_rfl
theorem lwrev_newEntry:entryFor table "reversed.__new__"=some Builtin.«reversed.__new__»:=entryFor_of_tree (by kernel_rfl)
theorem lwrev_plain:plainId "reversed.__new__"=true:=by decide +kernel
theorem lwrev_create:((Manifest.find? "reversed").bind (·.mro.findSome? λt=>(Manifest.find? t).bind λb=>if b.noNew then some true else if b.attrs.any (·.1 == "__new__") then some false else none)).getD false=false:=by decide +kernel
theorem lwrev_sub:isSubtype (.type "reversed") (.type "reversed")=pure true:=by rw[isSubtype_type];kernel_rfl
theorem lwrev_noRev:typeLookup (.type "tuple") "__reversed__"=pure none:=by rw[typeLookup_type,builtinLookup_eq_fast];kernel_rfl
theorem lwrev_noDict:isSubtype (.type "tuple") (.type "dict")=pure false:=by rw[isSubtype_type];kernel_rfl
end F
section
variable {prog:Program}{w:World}{A:Around}{E:Value->Shared->Prop}{s:Shared}
def lwrevObj (t:Addr)(i:Int):Obj:={cls:=.type "reversed",data:=.fields #[.ref t,rawInt i]}
def Heap.LwRev (h:Heap)(a t:Addr)(i:Int):Prop:=h.get? a=some (lwrevObj t i)
theorem Heap.LwRev.typeIs {a t:Addr}{i:Int}(x:s.heap.LwRev a t i):s.TypeIs (.ref a) "reversed":=⟨_,x,rfl⟩
theorem lwrev_newClass (a:Value):Builtin.SmallTypes.newClass "reversed" ⟨[.type "reversed",a],[]⟩=pure (.type "reversed",[a]):=by
 unfold Builtin.SmallTypes.newClass
 simp only[isType,F.lwrev_sub,pure_bind,Bool.not_true,false_eq_true,if_false]
theorem F.lwrev_init:Slot "reversed" "__init__" "object.__init__":=
 .of (owner := "object") (n := "__init__") (by rw[typeLookup_type,builtinLookup_eq_fast];kernel_rfl) (by decide +kernel) (by decide +kernel) (by decide +kernel)
  (by first |exact .inl (by decide +kernel) |exact .inr (by decide +kernel)) (by rw[isSubtype_type];kernel_rfl)
theorem F.lwrev_initArgs (obj a:Value):argsOk "object.__init__" ⟨[obj,a],[]⟩:=by
 first |exact F.initArgs_range_1 obj a | (unfold argsOk;kernel_rfl)
theorem F.lwrev_called:TypeCalled "reversed" "reversed.__new__" "object.__init__":=⟨by decide +kernel,F.lwrev_create,⟨_,_,F.lwrev_mro⟩,F.lwrev_made,F.lwrev_plain,F.lwrev_sub,F.lwrev_init⟩
theorem lwrev_in (t:Addr)(items:Array Value):
  MeetsIn prog w (Builtin.«reversed.__new__» ⟨[.type "reversed",.ref t],[]⟩) (λA R s=>(s.heap.IsTuple t items/\items.size<=sizeLine)/\∀tk,R (.ok (.ret (.ref s.heap.objs.size))) {s with heap:=s.heap.push (lwrevObj t ((items.size:Int)-1)),toks:=tk}):=
 .of_wp λA R s h=>by
  obtain⟨⟨ht,hz⟩,h⟩:=h
  have hT:s.TypeIs (.ref t) "tuple":=PyProof.Rows.IsTup.typeIs ht
  unfold Builtin.«reversed.__new__»
  refine wpAny_bind (wpAny_of_eq (lwrev_newClass _) ?_)
  try dsimp only
  refine wpAny_bind (wpAny_of_eq (a:=()) (by first |rfl |kernel_rfl) ?_)
  refine wpAny_bind (wpAny_of_eq (a:=()) (by first |rfl |kernel_rfl) ?_)
  try dsimp only
  refine wpAny_bind (wpAny_specialOf hT F.lwrev_noRev ?_)
  try dsimp only
  refine wpAny_bind ?_
  show wpAny _ _ (isInstance (.ref t) (.type "dict") >>= _) _ _ s
  refine wpAny_bind (wpAny_isInstance hT F.lwrev_noDict ?_)
  show wpAny _ _ (specialOf (.ref t) "__getitem__" >>= _) _ _ s
  refine wpAny_bind (wpAny_specialOf hT PyProof.Rows.slot_tuple_getitem.lookup ?_)
  show wpAny _ _ (if (["tuple.__getitem__","str.__getitem__","bytes.__getitem__","bytearray.__getitem__","memoryview.__getitem__","numpy.ndarray.__getitem__","sqlite3.Row.__getitem__"].contains "tuple.__getitem__")=true then pure true else _) _ _ s
  rw[if_pos (by decide)]
  refine wpAny_pure ?_
  show wpAny _ _ (if (!true)=true then _ else _) _ _ s
  rw[if_neg (by decide)]
  have hn:(sizeLine:Nat)<2^63:=by rw[sizeLine_eq];decide
  refine wpAny_bind (PyProof.Rows.len_tuple ht (by lia) ?_)
  refine wpAny_bind (wpAny_of_eq (a:=some (items.size:Int)) rfl ?_)
  show wpAny _ _ (Builtin.SmallTypes.newRecord (.type "reversed") [.ref t,rawInt ((items.size:Int)-1)] >>= _) _ _ _
  refine wpAny_bind ?_
  show wpAny _ _ (newObj (.type "reversed") (.fields #[.ref t,rawInt ((items.size:Int)-1)])) _ _ _
  refine wpAny_newObj_type ?_ (by size_fits)
  exact wpAny_pure ⟨_,rfl,h _⟩
theorem call_reversed_tuple {t:Addr}{items:Array Value}{Q:Value->Shared->Prop}(ht:s.heap.IsTuple t items)(hz:items.size<=sizeLine)
  (h:∀tk,Q (.ref s.heap.objs.size) {s with heap:=s.heap.push (lwrevObj t ((items.size:Int)-1)),toks:=tk}):wpAny (model prog w) A (call (.type "reversed") [.ref t]) Q E s:=
 callType_newIn F.lwrev_called (by decide) (F.lwrev_typeCall _) (F.lwrev_newCall _) (λobj=>F.lwrev_initArgs obj _) F.lwrev_newEntry (lwrev_in t items) ⟨⟨ht,hz⟩,λtk=>⟨⟨_,get?_push_size _ rfl,rfl⟩,h tk⟩⟩
theorem lwrev_item {it t:Addr}{i:Nat}{items:Array Value}{x:Value}{Q:Option Value->Shared->Prop}(hit:s.heap.LwRev it t (i:Int))(ht:s.heap.IsTuple t items)(hz:items.size<=sizeLine)(hx:items[i]?=some x)
  (hQ:∀h' tk,h'.LwRev it t ((i:Int)-1)->Heap.SameBut it s.heap h'->Q (some x) {s with heap:=h',toks:=tk}):wpAny (model prog w) A (pyNext (.ref it)) Q E s:=by
 have hT:s.TypeIs (.ref t) "tuple":=PyProof.Rows.IsTup.typeIs ht
 have hn:(sizeLine:Nat)<2^63:=by rw[sizeLine_eq];decide
 have hi:i<items.size:=(Array.getElem?_eq_some_iff.mp hx).1
 unfold pyNext
 refine wpAny_bind (wpAny_attempt (wpAny_callSpecial?_slot (name:=Str.ofString "__next__") hit.typeIs F.lwrev_next
  (wpAny_call_entry F.lwrev_next hit.typeIs F.lwrev_entry ?_ (F.lwrev_args _))))
 unfold Builtin.«reversed.__next__»
 refine wpAny_bind (wpAny_of_eq (a:=(Value.ref it,[])) rfl ?_)
 try dsimp only
 refine wpAny_bind (wpAny_field hit rfl (x:=.ref t) rfl ?_)
 refine wpAny_bind (wpAny_field hit rfl (x:=rawInt (i:Int)) rfl ?_)
 show wpAny _ _ (if (i:Int)<0 then _ else _) _ _ s
 rw[if_neg (by lia)]
 show wpAny _ _ (specialOf (.ref t) "__getitem__" >>= _) _ _ s
 refine wpAny_bind (wpAny_specialOf hT PyProof.Rows.slot_tuple_getitem.lookup ?_)
 show wpAny _ _ (if (Option.isNone (some _))=true then _ else _) _ _ s
 rw[if_neg (by decide)]
 show wpAny _ _ (mkInt (i:Int) >>= _) _ _ s
 refine wpAny_bind (wpAny_mkInt ?_)
 refine wpAny_bind (wpAny_attempt (PyProof.Rows.getItem_tuple (j:=i) ht (by lia) (by lia) (PySem.StrLaws.seqIndex_nonneg (by lia) (by lia)) hx ?_))
 dsimp only
 refine wpAny_bind (wpAny_field hit rfl (x:=rawInt (i:Int)) rfl ?_)
 show wpAny _ _ (setField (.ref it) 1 (rawInt ((i:Int)-1)) >>= _) _ _ _
 refine wpAny_bind (wpAny_setField hit rfl (by simp) ?_)
 refine wpAny_pure ⟨x,rfl,wpAny_pure (hQ _ _ ?_ (Heap.SameBut.update ..))⟩
 exact (get?_update_self _ hit (Obj.isFreed_of_fields (Obj.data_mapFields rfl _))).trans rfl
theorem lwrev_end {it t:Addr}{Q:Option Value->Shared->Prop}(hh:A.handled=none)(hit:s.heap.LwRev it t (-1))
  (hQ:∀h',Heap.ExtBut it s.heap h'->Q none {s with heap:=h'}):wpAny (model prog w) A (pyNext (.ref it)) Q E s:=by
 unfold pyNext
 refine wpAny_bind (wpAny_attempt (wpAny_callSpecial?_slot (name:=Str.ofString "__next__") hit.typeIs F.lwrev_next
  (wpAny_call_entry F.lwrev_next hit.typeIs F.lwrev_entry ?_ (F.lwrev_args _))))
 unfold Builtin.«reversed.__next__»
 refine wpAny_bind (wpAny_of_eq (a:=(Value.ref it,[])) rfl ?_)
 try dsimp only
 refine wpAny_bind (wpAny_field hit rfl (x:=.ref t) rfl ?_)
 refine wpAny_bind (wpAny_field hit rfl (x:=rawInt (-1)) rfl ?_)
 show wpAny _ _ (if (-1:Int)<0 then _ else _) _ _ s
 rw[if_pos (by decide)]
 refine wpAny_bind (wpAny_rule ?_)
 refine wpAny_bind ?_
 show wpAny _ _ (setField (.ref it) 1 (rawInt (-1)) >>= _) _ _ _
 refine wpAny_bind (wpAny_setField hit rfl (by simp) ?_)
 refine wpAny_setField (o:=Obj.mapFields (λa=>a.setIfInBounds 1 (rawInt (-1))) (lwrevObj t (-1))) (get?_update_self _ hit (Obj.isFreed_of_fields (Obj.data_mapFields rfl _))) (Obj.data_mapFields rfl _) (by simp) ?_
 refine wpAny_bind ?_
 show wpAny _ _ (newExc (.type "StopIteration") [] >>= _) _ _ _
 refine wpAny_bind ?_
 simp only[newExc,newTuple]
 refine wpAny_bind (wpAny_newObj_type ?_ (by size_fits))
 refine wpAny_bind (m:=firstArgMember _ _) (wpAny_of_eq (a:=Value.none) (by first |rfl | (simp only[firstArgMember];rfl)) ?_)
 refine wpAny_newObj_type ?_ (by size_fits)
 simp only[raiseNew]
 refine wpAny_bind (wpAny_handled ?_)
 first |rw[show A.in1.handled=none from hh] |rw[hh]
 refine wpAny_bind (wpAny_pure (wpAny_throw ?_))
 refine wpAny_bind (wpAny_isInstance (T := "StopIteration") (b:=true) ⟨_,get?_push_size _ rfl,rfl⟩ isSubtype_stop ?_)
 refine wpAny_pure (hQ _ ?_)
 refine Heap.ExtBut.push (Heap.ExtBut.push ?_ _) _
 intro b o hb e
 exact (get?_update_other _ _ (Ne.symm hb)).trans ((get?_update_other _ _ (Ne.symm hb)).trans e)
theorem lwrev_self {it t:Addr}{i:Int}{Q:Value->Shared->Prop}(hit:s.heap.LwRev it t i)(h:Q (.ref it) s):wpAny (model prog w) A (pyIter (.ref it)) Q E s:=by
 refine wpAny_pyIter_slot hit.typeIs F.lwrev_iter (wpAny_call_entry F.lwrev_iter hit.typeIs F.lwrev_ientry ?_ (F.lwrev_iargs _))
 show wpAny _ _ (ret (.ref it)) _ _ s
 exact wpAny_pure ⟨_,rfl,"reversed",_,hit.typeIs,F.lwrev_next.lookup,h⟩
end
end PySem
namespace L2
open PySem PySem.Spec PyProof.Rows
def Itv (K:Frag)(a:Addr)(n:Nat):It:=
 ⟨λi H=>∃xs x,SqT K H a xs/\xs.length=n/\i<n/\xs[n-1-i]?=some x,λi H x H'=>H'=H/\∀xs,SqT K H a xs->xs[n-1-i]?=some x,λi _=>n<=i⟩
theorem turn_rev {P:Program}{w:World}{K:Frag}{tg:Expr}(a it:Addr)(n:Nat):Turn P w K tg (Itv K a n) [it] it (λi h=>i<=n/\h.LwRev it a ((n:Int)-1-(i:Nat))) where
 mem:=by simp
 obj := λi h st b hb=>by
  have e:b=it:=by simpa using hb
  subst e
  exact⟨_,st.2,λv z=>by
   have z':Data.fields _=Data.cell v:=z
   cases z'⟩
 keep:=λi h h' st k=>⟨st.1,k it (by simp) _ st.2⟩
 item:=by
  kj_on
  obtain⟨xs,x,hq,hn,hi,hx⟩:=hg
  obtain⟨its,rv,p,hz⟩:=I.tuple hq
  obtain⟨u,hu,ru⟩:=rv.get hx
  obtain⟨f0,f1,f2,f3,f4,f5⟩:=hf it (by simp)
  have hl:=rv.length
  have st0:s.heap.LwRev it a (((n-1-i:Nat)):Int):=by
   have e:(((n-1-i:Nat)):Int)=(n:Int)-1-(i:Nat):=by lia
   rw[e];exact st.2
  refine lwrev_item (items:=its.toArray) st0 p (by rw[size_toArray,<- hl];exact hz) (x:=u) (by simpa using hu) λh' tk st' sb=>?_
  have I1:Inv X pins O H {s with heap:=h',toks:=tk}:=I.turned (λb o hb e=>(sb.2 b hb).trans e) f0 f1 f3 f4 f5
  have st1:h'.LwRev it a ((n:Int)-1-((i+1:Nat):Int)):=by
   have e:(n:Int)-1-((i+1:Nat):Int)=(((n-1-i:Nat)):Int)-1:=by lia
   rw[e];exact st'
  exact⟨u,rfl,go_of (s:={s with heap:=h',toks:=tk}) (n := "reversed") st' rfl rfl (by decide) ⟨x,H,I1,ru,⟨rfl,λys hy=>by rw[I.tuple_inj hy hq];exact hx⟩,⟨by lia,st1⟩,λb hb=>(hf b hb).1⟩⟩
 done:=by
  kj_on
  obtain⟨f0,f1,f2,f3,f4,f5⟩:=hf it (by simp)
  have st0:s.heap.LwRev it a (-1):=by
   have h1:=st.1
   have h2:n<=i:=hg
   have e:(-1:Int)=(n:Int)-1-(i:Nat):=by lia
   rw[e];exact st.2
  exact lwrev_end (I.ok.hd hc) st0 λh' eb=>⟨rfl,I.turned (t':=s.toks) (λb o hb e=>eb b o hb e) f0 f1 f3 f4 f5⟩
 self:=λ_ _ _ _ _ st h=>lwrev_self st.2 h
section
variable {X:Cx}{tg:Expr}
def iRev (K:Frag)(ta:TA):TI:=λO H R=>ta O H λvs H1=>∃a xs,vs=[.ref a]/\SqT K H1 a xs/\R (Itv K a xs.length) H1
theorem pi_reversed {l:Expr}{ta:TA}{p pos:Pos}(hg:Gl X "reversed")(hm:X.mg "reversed"=none)(ha:PA X [l] ta)(hs:starEach [l] X.env=[(false,eval l X.env)]:=by rfl):PI X tg (.Call (.Name "reversed" p) [l] [] pos) (iRev X.K ta):=by
 intro pins s O H R I h
 refine Call_ (ld_blt I hg hm PyProof.Rows.boot_reversed (PyProof.Rows.callWith_type1 (thn (ha pos pins s O H _ I h) λus s1 ⟨vs,H1,I1,r1,q1⟩=>?_) hs rfl))
 obtain⟨a,xs,e,hq,q⟩:=q1
 subst e
 obtain⟨u,rfl,ru⟩:=vals1 r1
 cases ru
 obtain⟨its,rv,pt,hz⟩:=I1.tuple hq
 have hl:=rv.length
 refine call_reversed_tuple (items:=its.toArray) pt (by rw[size_toArray,<- hl];exact hz) λtk=>?_
 have e0:(s1.heap.push (lwrevObj a ((its.toArray.size:Int)-1))).LwRev s1.heap.objs.size a ((xs.length:Int)-1-((0:Nat):Int)):=by
  have e:(xs.length:Int)-1-((0:Nat):Int)=(its.toArray.size:Int)-1:=by rw[size_toArray,hl];lia
  rw[e]
  exact get?_push_size _ rfl
 refine lwrev_self e0 ?_
 refine⟨s1.heap.objs.size,[s1.heap.objs.size],_,_,H1,rfl,I1.kept λb o e=>get?_push_of_some _ e,turn_rev a _ xs.length,⟨zero_le _,e0⟩,λb hb=>?_,q⟩
 have e:b=s1.heap.objs.size:=by simpa using hb
 subst e
 exact I1.fpOk (Nat.le_refl _) (I1.hok.fresh (Nat.le_refl _))
end
theorem Same.seqT {K:Frag}{H H':Hp}{a:Addr}{xs:List V}(e:Same H H')(h:SqT K H a xs):SqT K H' a xs:=by
 rcases h with (h | ⟨o,h⟩) |h
 .exact .inl (.inl (e _ _ h))
 .exact .inl (.inr ⟨o,e _ _ h⟩)
 .exact .inr h
theorem pe_globI {X:Cx}{x:Str}{i:Int}{pos:Pos}(hg:Gl X x)(hm:∃t,X.mg x=some (.int i t))(hd:(x==("__debug__":Str))=false:=by decide):PE X (.Name x pos) (tC (.int i)):=by
 obtain⟨t,e⟩:=hm
 exact pe_glob hg e ⟨t,rfl⟩ hd
def defName:Stmt->Str
 | .FunctionDef n _ _ _ _ _ _ _ _ _=>n
 |_ => ""
abbrev cloObj (q:Str)(st:Stmt)(cl:List (Str×Addr))(doc pm:Value)(c:Addr)(ctv:Value):Obj:=PySem.W.fnMade (defName st) q (defArgs st) (defBody st) (defScope st) cl doc pm c ctv
def CellsF (F:Hp)(cl:List (Str×Addr))(vs:List V):Prop:=∀(i:Nat) (v:V),vs[i]?=some v->∃x a o u,cl[i]?=some (x,a)/\F a=some (.frz o (.own a))/\o.data = .cell (some u)/\RelV v u
inductive D where
 |int (i:Int) |bl (b:Bool) |non |str (x:Str) |ty (n:String) |fn (x:Str) |tup (ds:List D) |lst (ds:List D) |dic |exc (c:Str) |obj (c:Str) (ns:List Str) (ds:List D) |clo (q:Str) (st:Stmt) (cl:List (Str×Addr)) (ds:List D)
def clsφ (a:Addr)(c:Value):Heap->Prop:=λh=>∃o,h.get? a=some o/\o.cls=c
mutual
def Rep (K:Frag)(F:Hp):D->V->Prop
 | .int i,v=>v = .int i
 | .bl b,v=>v = .bl b
 | .non,v=>v = .non
 | .str x,v=>v = .str x
 | .ty n,v=>v = .ty n
 | .fn x,v=>∃f,v = .ref f/\nsIn K mainGlobals x=some (some (.ref f))
 | .tup ds,v=>∃a vs,v = .ref a/\SqT K F a vs/\Reps K F ds vs
 | .lst ds,v=>∃a vs,v = .ref a/\SqL K F a vs/\Reps K F ds vs
 | .dic,v=>∃a,v = .ref a/\F a=some (.ext (clsφ a (.type "dict")))
 | .exc c,v=>∃a C,v = .ref a/\nsIn K mainGlobals c=some (some (.ref C))/\F a=some (.ext (clsφ a (.ref C)))
 | .obj c ns ds,v=>∃a C dx vs,v = .ref a/\nsIn K mainGlobals c=some (some (.ref C))/\F a=some (.ins C dx (ns.zip vs))/\ds.length<=ns.length/\Reps K F ds vs
 | .clo q st cl ds,v=>∃f c oc doc pm ctv vs,v = .ref f/\F f=some (.frz (cloObj q st cl doc pm c ctv) (.own f))/\F c=some (.frz oc (.own c))/\isCod oc q/\Reps K F ds vs/\CellsF F cl vs
def Reps (K:Frag)(F:Hp):List D->List V->Prop
 | [],vs=>vs=[]
 |d::ds,vs=>∃v r,vs=v::r/\Rep K F d v/\Reps K F ds r
end
section
variable {K:Frag}{F F' H H':Hp}
mutual
theorem Rep.mono (s:Same F F'): ∀{d:D} {v:V},Rep K F d v->Rep K F' d v
 | .int _,_,h=>h
 | .bl _,_,h=>h
 | .non,_,h=>h
 | .str _,_,h=>h
 | .ty _,_,h=>h
 | .fn _,_,h=>h
 | .tup ds,v,h=>by
  obtain⟨a,vs,e,h1,h2⟩:=h
  exact⟨a,vs,e,s.seqT h1,Reps.mono s h2⟩
 | .lst ds,v,h=>by
  obtain⟨a,vs,e,h1,h2⟩:=h
  exact⟨a,vs,e,s.seq h1,Reps.mono s h2⟩
 | .dic,v,h=>by
  obtain⟨a,e,h1⟩:=h
  exact⟨a,e,s _ _ h1⟩
 | .exc _,v,h=>by
  obtain⟨a,C,e,h0,h1⟩:=h
  exact⟨a,C,e,h0,s _ _ h1⟩
 | .obj _ _ ds,v,h=>by
  obtain⟨a,C,dx,vs,e,h0,h1,hl,h2⟩:=h
  exact⟨a,C,dx,vs,e,h0,s _ _ h1,hl,Reps.mono s h2⟩
 | .clo _ _ _ ds,v,h=>by
  obtain⟨f,c,oc,doc,pm,ctv,vs,e,h1,h2,h3,h4,h5⟩:=h
  exact⟨f,c,oc,doc,pm,ctv,vs,e,s _ _ h1,s _ _ h2,h3,Reps.mono s h4,λi v hi=>let⟨x,a,o,u,e1,e2,e3⟩:=h5 i v hi;⟨x,a,o,u,e1,s _ _ e2,e3⟩⟩
theorem Reps.mono (s:Same F F'): ∀{ds:List D} {vs:List V},Reps K F ds vs->Reps K F' ds vs
 | [],_,h=>h
 |d::ds,vs,h=>by
  obtain⟨v,r,e,h1,h2⟩:=h
  exact⟨v,r,e,Rep.mono s h1,Reps.mono s h2⟩
end
theorem Reps.length:∀{ds:List D} {vs:List V},Reps K F ds vs->ds.length=vs.length
 | [],_,h=>by cases h;rfl
 |d::ds,vs,h=>by
  obtain⟨v,r,rfl,h1,h2⟩:=h
  simp[Reps.length h2]
theorem Reps.get:∀{ds:List D} {vs:List V} {i:Nat} {d:D},Reps K F ds vs->ds[i]?=some d->∃v,vs[i]?=some v/\Rep K F d v
 | [],_,_,_,_,e=>by simp at e
 |d::ds,vs,i,d',h,e=>by
  obtain⟨v,r,rfl,h1,h2⟩:=h
  cases i with
  |zero=>simp at e;subst e;exact⟨v,rfl,h1⟩
  |succ i=>simpa using Reps.get h2 e
theorem Reps.get':∀{ds:List D} {vs:List V} {i:Nat} {v:V},Reps K F ds vs->vs[i]?=some v->∃d,ds[i]?=some d/\Rep K F d v:=λ{ds vs i v} h e=>by
 have hl:=h.length
 have hi:=(List.getElem?_eq_some_iff.mp e).1
 obtain⟨v',e',r⟩:=h.get (getElem?_eq_getElem (i:=i) (by lia))
 rw[e]at e';cases e'
 exact⟨_,getElem?_eq_getElem (by lia),r⟩
theorem Reps.append:∀{ds es:List D} {vs us:List V},Reps K F ds vs->Reps K F es us->Reps K F (ds++es) (vs++us)
 | [],_,_,_,h,g=>by cases h;exact g
 |d::ds,_,_,_,h,g=>by
  obtain⟨v,r,rfl,h1,h2⟩:=h
  exact⟨v,r++_,rfl,h1,Reps.append h2 g⟩
theorem Reps.take:∀{ds:List D} {vs:List V} (n:Nat),Reps K F ds vs->Reps K F (ds.take n) (vs.take n)
 | [],_,n,h=>by cases h;simp[Reps]
 |d::ds,_,0,h=>by simp[Reps]
 |d::ds,_,n+1,h=>by
  obtain⟨v,r,rfl,h1,h2⟩:=h
  exact⟨v,r.take n,rfl,h1,Reps.take n h2⟩
theorem Reps.drop:∀{ds:List D} {vs:List V} (n:Nat),Reps K F ds vs->Reps K F (ds.drop n) (vs.drop n)
 | [],_,n,h=>by cases h;simp[Reps]
 |d::ds,_,0,h=>h
 |d::ds,_,n+1,h=>by
  obtain⟨v,r,rfl,h1,h2⟩:=h
  simpa using Reps.drop n h2
theorem reps_ints:∀{xs:List Int} {vs:List V},Reps K F (xs.map D.int) vs↔vs=xs.map V.int
 | [],vs=>Iff.rfl
 |x :: xs,vs=>by
  constructor
  .rintro ⟨v,r,rfl,h1,h2⟩
   have h1':v=V.int x:=h1
   rw[h1',reps_ints.mp h2];rfl
  .rintro rfl
   exact⟨_,_,rfl,rfl,reps_ints.mpr rfl⟩
end
def imm:HO->Bool
 | .tup _=>true
 | .frz _ _=>true
 |_=>false
inductive OV where
 |fz (d:D)
 |nl (ts:List OV)
 |rt (a:Addr) (ts:List OV)
 |fx (v:V) (d:D)
 |ob (o:Option Addr) (c:Str) (ns:List Str) (ts:List OV)
mutual
def OV.val:OV->D
 | .fz d=>d
 | .nl ts=>.lst (OV.vals ts)
 | .rt _ ts=>.lst (OV.vals ts)
 | .fx _ d=>d
 | .ob _ c ns ts=>.obj c ns (OV.vals ts)
def OV.vals:List OV->List D
 | []=>[]
 |t::ts=>t.val::OV.vals ts
end
theorem OV.vals_eq:∀(ts:List OV),OV.vals ts=ts.map OV.val
 | []=>by simp[OV.vals]
 |t::ts=>by simp[OV.vals,OV.vals_eq ts]
mutual
def RepO (K:Frag)(F H:Hp):OV->V->List Addr->Prop
 | .fz d,v,A=>A=[]/\Rep K F d v
 | .nl ts,v,A=>∃a vs B,v = .ref a/\A=a::B/\H a=some (.lst vs)/\RepOs K F H ts vs B
 | .rt a ts,v,A=>∃vs B,v = .ref a/\A=a::B/\H a=some (.lst vs)/\RepOs K F H ts vs B
 | .fx u d,v,A=>A=[]/\v=u/\Rep K F d v
 | .ob o c ns ts,v,A=>∃a C dx vs B,v = .ref a/\A=a::dx::B/\nsIn K mainGlobals c=some (some (.ref C))/\(∀a',o=some a'->a=a')/\H a=some (.ins C dx (ns.zip vs))/\H dx=some (.own a)/\ts.length<=ns.length/\RepOs K F H ts vs B
def RepOs (K:Frag)(F H:Hp):List OV->List V->List Addr->Prop
 | [],vs,A=>vs=[]/\A=[]
 |t::ts,vs,A=>∃v r B C,vs=v::r/\A=B++C/\RepO K F H t v B/\RepOs K F H ts r C
end
section
variable {K:Frag}{F F' H H':Hp}
mutual
theorem RepO.frame (s:Same F F'): ∀{t:OV} {v:V} {A:List Addr},(∀a∈A,∀xs,H a=some xs->H' a=some xs)->RepO K F H t v A->RepO K F' H' t v A
 | .fz d,v,A,_,h=>⟨h.1,h.2.mono s⟩
 | .nl ts,v,A,hk,h=>by
  obtain⟨a,vs,B,e,rfl,h1,h2⟩:=h
  exact⟨a,vs,B,e,rfl,hk a mem_cons_self _ h1,RepOs.frame s (λb hb=>hk b (mem_cons_of_mem _ hb)) h2⟩
 | .rt a ts,v,A,hk,h=>by
  obtain⟨vs,B,e,rfl,h1,h2⟩:=h
  exact⟨vs,B,e,rfl,hk a mem_cons_self _ h1,RepOs.frame s (λb hb=>hk b (mem_cons_of_mem _ hb)) h2⟩
 | .fx u d,v,A,_,h=>⟨h.1,h.2.1,h.2.2.mono s⟩
 | .ob o c ns ts,v,A,hk,h=>by
  obtain⟨a,C,dx,vs,B,e,rfl,h0,ho,h1,h2,hl,h3⟩:=h
  exact⟨a,C,dx,vs,B,e,rfl,h0,ho,hk a (by simp) _ h1,hk dx (by simp) _ h2,hl,RepOs.frame s (λb hb=>hk b (by simp[hb])) h3⟩
theorem RepOs.frame (s:Same F F'): ∀{ts:List OV} {vs:List V} {A:List Addr},(∀a∈A,∀xs,H a=some xs->H' a=some xs)->RepOs K F H ts vs A->RepOs K F' H' ts vs A
 | [],vs,A,_,h=>h
 |t::ts,vs,A,hk,h=>by
  obtain⟨v,r,B,C,e,rfl,h1,h2⟩:=h
  exact⟨v,r,B,C,e,rfl,RepO.frame s (λb hb=>hk b (mem_append_left _ hb)) h1,RepOs.frame s (λb hb=>hk b (mem_append_right _ hb)) h2⟩
end
mutual
theorem RepO.isl:∀{t:OV} {v:V} {A:List Addr},RepO K F H t v A->∀a∈A,∃xs,H a=some xs/\imm xs=false
 | .fz d,v,A,h,a,ha=>by rw[h.1]at ha;cases ha
 | .nl ts,v,A,h,a,ha=>by
  obtain⟨b,vs,B,e,rfl,h1,h2⟩:=h
  rcases mem_cons.mp ha with rfl |z
  .exact ⟨_,h1,rfl⟩
  .exact RepOs.isl h2 a z
 | .rt b ts,v,A,h,a,ha=>by
  obtain⟨vs,B,e,rfl,h1,h2⟩:=h
  rcases mem_cons.mp ha with rfl |z
  .exact ⟨_,h1,rfl⟩
  .exact RepOs.isl h2 a z
 | .fx u d,v,A,h,a,ha=>by rw[h.1]at ha;cases ha
 | .ob o c ns ts,v,A,h,a,ha=>by
  obtain⟨b,C,dx,vs,B,e,rfl,h0,ho,h1,h2,hl,h3⟩:=h
  rcases mem_cons.mp ha with rfl |z
  .exact ⟨_,h1,rfl⟩
  .rcases mem_cons.mp z with rfl |z
   .exact ⟨_,h2,rfl⟩
   .exact RepOs.isl h3 a z
theorem RepOs.isl:∀{ts:List OV} {vs:List V} {A:List Addr},RepOs K F H ts vs A->∀a∈A,∃xs,H a=some xs/\imm xs=false
 | [],vs,A,h,a,ha=>by rw[h.2]at ha;cases ha
 |t::ts,vs,A,h,a,ha=>by
  obtain⟨v,r,B,C,e,rfl,h1,h2⟩:=h
  rcases mem_append.mp ha with z |z
  .exact RepO.isl h1 a z
  .exact RepOs.isl h2 a z
end
mutual
theorem RepO.rep (s:Same F F'): ∀{t:OV} {v:V} {A:List Addr},(∀a∈A,∀xs,H a=some xs->F' a=some xs)->RepO K F H t v A->Rep K F' t.val v
 | .fz d,v,A,_,h=>h.2.mono s
 | .nl ts,v,A,hk,h=>by
  obtain⟨a,vs,B,e,rfl,h1,h2⟩:=h
  exact⟨a,vs,e,SqL.of (hk a mem_cons_self _ h1),RepOs.rep s (λb hb=>hk b (mem_cons_of_mem _ hb)) h2⟩
 | .fx u d,v,A,_,h=>h.2.2.mono s
 | .ob o c ns ts,v,A,hk,h=>by
  obtain⟨a,C,dx,vs,B,e,rfl,h0,ho,h1,h2,hl,h3⟩:=h
  exact⟨a,C,dx,vs,e,h0,hk a (by simp) _ h1,by rw[OV.vals_eq,length_map];exact hl,RepOs.rep s (λb hb=>hk b (by simp[hb])) h3⟩
 | .rt a ts,v,A,hk,h=>by
  obtain⟨vs,B,e,rfl,h1,h2⟩:=h
  exact⟨a,vs,e,SqL.of (hk a mem_cons_self _ h1),RepOs.rep s (λb hb=>hk b (mem_cons_of_mem _ hb)) h2⟩
theorem RepOs.rep (s:Same F F'):∀{ts:List OV} {vs:List V} {A:List Addr},(∀a∈A,∀xs,H a=some xs->F' a=some xs)->RepOs K F H ts vs A->Reps K F' (OV.vals ts) vs
 | [],vs,A,_,h=>h.1
 |t::ts,vs,A,hk,h=>by
  obtain⟨v,r,B,C,e,rfl,h1,h2⟩:=h
  exact⟨v,r,e,RepO.rep s (λb hb=>hk b (mem_append_left _ hb)) h1,RepOs.rep s (λb hb=>hk b (mem_append_right _ hb)) h2⟩
end
theorem RepOs.length:∀{ts:List OV} {vs:List V} {A:List Addr},RepOs K F H ts vs A->ts.length=vs.length
 | [],_,_,h=>by rw[h.1];rfl
 |t::ts,_,_,h=>by
  obtain⟨v,r,B,C,rfl,rfl,h1,h2⟩:=h
  simp[RepOs.length h2]
theorem RepOs.append:∀{ts us:List OV} {vs ws:List V} {A B:List Addr},RepOs K F H ts vs A->RepOs K F H us ws B->RepOs K F H (ts++us) (vs++ws) (A++B)
 | [],_,_,_,_,_,h,g=>by obtain⟨rfl,rfl⟩:=h;exact g
 |t::ts,_,_,_,_,_,h,g=>by
  obtain⟨v,r,B,C,rfl,rfl,h1,h2⟩:=h
  exact⟨v,_,B,_,rfl,by rw[append_assoc],h1,RepOs.append h2 g⟩
theorem RepOs.one (h:RepO K F H t v A): RepOs K F H [t] [v] A:=⟨v,[],A,[],rfl,by simp,h,rfl,rfl⟩
theorem RepOs.focus:∀{ts:List OV} {vs:List V} {A:List Addr} {i:Nat} {t:OV},RepOs K F H ts vs A->ts[i]?=some t->∃v A1 B A2,vs[i]?=some v/\A=A1++(B++A2)/\RepO K F H t v B/\
  ∀F' H' t' v' B',Same F F'->(∀a∈A1++A2,∀xs,H a=some xs->H' a=some xs)->RepO K F' H' t' v' B'->RepOs K F' H' (ts.set i t') (vs.set i v') (A1++(B'++A2))
 | [],_,_,_,_,_,e=>by simp at e
 |t::ts,_,_,0,t0,h,e=>by
  obtain⟨v,r,B,C,rfl,rfl,h1,h2⟩:=h
  simp at e
  subst e
  refine⟨v,[],B,C,rfl,rfl,h1,λF' H' t' v' B' s hk h'=>?_⟩
  exact⟨v',r,B',C,rfl,rfl,h',RepOs.frame s (λa ha=>hk a ha) h2⟩
 |t::ts,_,_,i+1,t0,h,e=>by
  obtain⟨v,r,B,C,rfl,rfl,h1,h2⟩:=h
  obtain⟨v0,A1,B0,A2,e1,rfl,h3,h4⟩:=RepOs.focus h2 e
  refine⟨v0,B++A1,B0,A2,e1,by simp,h3,λF' H' t' v' B' s hk h'=>?_⟩
  refine⟨v,r.set i v',B,A1++(B'++A2),rfl,by simp,RepO.frame s (λa ha=>hk a (by simp[ha])) h1,h4 F' H' t' v' B' s (λa ha=>hk a ?_) h'⟩
  rcases mem_append.mp ha with z |z<;>simp[z]
theorem RepOs.fzs:∀{ds:List D} {vs:List V},Reps K F ds vs->RepOs K F H (ds.map OV.fz) vs []
 | [],_,h=>⟨h,rfl⟩
 |d::ds,_,h=>by
  obtain⟨v,r,rfl,h1,h2⟩:=h
  exact⟨v,r,[],[],rfl,rfl,⟨rfl,h1⟩,RepOs.fzs h2⟩
theorem RepOs.reps:∀{ds:List D} {vs:List V} {A:List Addr},RepOs K F H (ds.map OV.fz) vs A->Reps K F ds vs/\A=[]
 | [],_,_,h=>⟨h.1,h.2⟩
 |d::ds,_,_,h=>by
  obtain⟨v,r,B,C,rfl,rfl,h1,h2⟩:=h
  obtain⟨e1,e2⟩:=RepOs.reps h2
  exact⟨⟨v,r,rfl,h1.2,e1⟩,by rw[h1.1,e2];rfl⟩
end
structure Ext (F H F' H':Hp):Prop where
 ff:Same F F'
 hh:Same H H'
 fh:Same F' H'
 no:∀a o,F a=none->H a=some o->imm o=false->F' a=none
theorem Ext.refl (s:Same F H): Ext F H F H:=⟨Same.refl _,Same.refl _,s,λ_ _ h _ _=>h⟩
theorem Ext.trans (a:Ext F H F' H')(b:Ext F' H' F'' H''): Ext F H F'' H'':=
 ⟨a.ff.trans b.ff,a.hh.trans b.hh,b.fh,λx o h1 h2 h3=>b.no x o (a.no x o h1 h2 h3) (a.hh _ _ h2) h3⟩
def RepN (K:Frag)(H F' H':Hp)(r:OV)(v:V):Prop:=∃A,RepO K F' H' r v A/\A.Nodup/\∀a∈A,H a=none/\F' a=none
theorem RepN.fz {K:Frag}{H F' H':Hp}{d:D}{v:V}(h:Rep K F' d v):RepN K H F' H' (.fz d) v:=⟨[],⟨rfl,h⟩,nodup_nil,λ_ h=>by cases h⟩
theorem RepN.old {K:Frag}{H0 H F' H':Hp}{r:OV}{v:V}(s:Same H0 H)(h:RepN K H F' H' r v):RepN K H0 F' H' r v:=by
 obtain⟨A,h1,h2,h3⟩:=h
 exact⟨A,h1,h2,λa ha=>⟨s.free (h3 a ha).1,(h3 a ha).2⟩⟩
theorem RepN.frz {K:Frag}{F H F' H':Hp}{r:OV}{v:V}(x:Ext F H F' H')(h:RepN K H F' H' r v):∃F'',Ext F H F'' H'/\Same F' F''/\Rep K F'' r.val v:=by
 obtain⟨A,h1,h2,h3⟩:=h
 refine⟨λa=>if a∈A then H' a else F' a,⟨λb o e=>?_,x.hh,λb o e=>?_,λa o e1 e2 e3=>?_⟩,λb o e=>?_,?_⟩
 .have hb:b∉A:=λz=>by rw[(x.ff.free (h3 b z).2)]at e;cases e
  rw[if_neg hb];exact x.ff _ _ e
 .split at e
  .exact e
  .exact x.fh _ _ e
 .have ha:a∉A:=λz=>by rw[(h3 a z).1]at e2;cases e2
  rw[if_neg ha];exact x.no a o e1 e2 e3
 .have hb:b∉A:=λz=>by rw[(h3 b z).2]at e;cases e
  try dsimp only
  rw[if_neg hb];exact e
 .refine h1.rep (λb o e=>?_) λa ha xs e=>?_
  .have hb:b∉A:=λz=>by rw[(h3 b z).2]at e;cases e
   rw[if_neg hb];exact e
  .rw [if_pos ha];exact e
inductive Sl where
 |own (t:OV)
 |bw (d:D)
abbrev Dst:=List (Option Sl)
structure ER (K:Frag) (F0 H0 F H:Hp) (O:St) (M:Dst) (A:Nat->List Addr):Prop where
 len:O.length=M.length
 ext:Ext F0 H0 F H
 own:∀(i:Nat) (t:OV),M[i]?=some (some (.own t))->∃v,O[i]?=some (some v)/\RepO K F H t v (A i)
 bw:∀(i:Nat) (d:D),M[i]?=some (some (.bw d))->∃v,O[i]?=some (some v)/\Rep K H0 d v
 nod:∀i,(A i).Nodup
 dis:∀i j a,i≠j->a∈A i->a∉A j
 new:∀i a,a∈A i->F a=none/\H0 a=none/\∃xs,H a=some xs/\imm xs=false
def EnvR (K:Frag)(F0 H0 F H:Hp)(O:St)(M:Dst):Prop:=∃A,ER K F0 H0 F H O M A
section
variable {K:Frag}{F0 H0 F H F' H':Hp}{O:St}{M:Dst}{A:Nat->List Addr}
theorem ER.on (e:ER K F0 H0 F H O M A)(x:Ext F H F' H'): ER K F0 H0 F' H' O M A where
 len:=e.len
 ext:=e.ext.trans x
 own:=λi t h=>by
  obtain⟨v,h1,h2⟩:=e.own i t h
  exact⟨v,h1,h2.frame x.ff λa _ xs z=>x.hh _ _ z⟩
 bw:=e.bw
 nod:=e.nod
 dis:=e.dis
 new:=λi a ha=>by
  obtain⟨h1,h2,xs,h3,h4⟩:=e.new i a ha
  exact⟨x.no a _ h1 h3 h4,h2,xs,x.hh _ _ h3,h4⟩
theorem EnvR.on (e:EnvR K F0 H0 F H O M)(x:Ext F H F' H'): EnvR K F0 H0 F' H' O M:=let⟨A,e⟩:=e;⟨A,e.on x⟩
theorem EnvR.ext (e:EnvR K F0 H0 F H O M): Ext F0 H0 F H:=let⟨_,e⟩:=e;e.ext
theorem EnvR.put (e:EnvR K F0 H0 F H O M)(x:Ext F H F' H')(i:Nat)(h:RepN K H F' H' r v): EnvR K F0 H0 F' H' (O.set i (some v)) (M.set i (some (.own r))):=by
 obtain⟨A,e⟩:=e
 obtain⟨B,b1,b2,b3⟩:=h
 have e':=e.on x
 refine⟨λj=>if j=i then B else A j,by simp[e.len],e'.ext,λj t hj=>?_,λj d hj=>?_,λj=>?_,λj k a hjk h1 h2=>?_,λj a ha=>?_⟩
 .by_cases z:j=i
  .subst z
   rw[if_pos rfl]
   have hl:j<M.length:=by
    have:=(List.getElem?_eq_some_iff.mp hj).1
    rwa[length_set]at this
   rw[getElem?_set_self hl]at hj
   cases hj
   exact⟨v,getElem?_set_self (by rw[e.len];exact hl),b1⟩
  .rw [if_neg z]
   rw[getElem?_set_ne (Ne.symm z)]at hj ⊢
   exact e'.own j t hj
 .by_cases z:j=i
  .subst z
   have hl:j<M.length:=by
    have:=(List.getElem?_eq_some_iff.mp hj).1
    rwa[length_set]at this
   rw[getElem?_set_self hl]at hj
   cases hj
  .rw [getElem?_set_ne (Ne.symm z)]at hj ⊢
   exact e'.bw j d hj
 .split
  .exact b2
  .exact e.nod j
 .have key:∀k,a∈B->a∈A k->False:=λk z1 z2=>by
   obtain⟨_,_,xs,q,_⟩:=e.new k a z2
   rw[(b3 a z1).1]at q;cases q
  split at h1
  .split at h2
   .lia
   .exact key _ h1 h2
  .split at h2
   .exact key _ h2 h1
   .exact e.dis j k a hjk h1 h2
 .split at ha
  .exact ⟨(b3 a ha).2,e.ext.hh.free (b3 a ha).1,b1.isl a ha⟩
  .exact e'.new j a ha
theorem ER.putFz (e:ER K F0 H0 F H O M A)(i:Nat)(h:Rep K F d v): ER K F0 H0 F H (O.set i (some v)) (M.set i (some (.own (.fz d)))) (λj=>if j=i then [] else A j):=by
 refine⟨by simp[e.len],e.ext,λj t hj=>?_,λj d hj=>?_,λj=>?_,λj k a hjk h1 h2=>?_,λj a ha=>?_⟩
 .by_cases z:j=i
  .subst z
   rw[if_pos rfl]
   have hl:j<M.length:=by
    have:=(List.getElem?_eq_some_iff.mp hj).1
    rwa[length_set]at this
   rw[getElem?_set_self hl]at hj
   cases hj
   exact⟨v,getElem?_set_self (by rw[e.len];exact hl),rfl,h⟩
  .rw [if_neg z]
   rw[getElem?_set_ne (Ne.symm z)]at hj ⊢
   exact e.own j t hj
 .by_cases z:j=i
  .subst z
   have hl:j<M.length:=by
    have:=(List.getElem?_eq_some_iff.mp hj).1
    rwa[length_set]at this
   rw[getElem?_set_self hl]at hj
   cases hj
  .rw [getElem?_set_ne (Ne.symm z)]at hj ⊢
   exact e.bw j d hj
 .split
  .exact nodup_nil
  .exact e.nod j
 .split at h1
  .cases h1
  .split at h2
   .cases h2
   .exact e.dis j k a hjk h1 h2
 .split at ha
  .cases ha
  .exact e.new j a ha
end
abbrev DE:=Dst->(D->Prop)->Prop
abbrev DO:=Dst->(OV->Prop)->Prop
abbrev DA:=Dst->(List D->Prop)->Prop
abbrev DAO:=Dst->(List OV->Prop)->Prop
abbrev DT:=Dst->(Bool->Prop)->Prop
structure DEnds where
 nx:Dst->Prop
 rt:OV->Prop
 bk:Dst->Prop:=λ_=>False
 ct:Dst->Prop:=λ_=>False
abbrev DS:=DEnds->Dst->Prop
section
variable (K:Frag)
def SimO (t:TE)(E:DO):Prop:=∀F0 H0 F H O M P Q,EnvR K F0 H0 F H O M->E M P->(∀r v F' H',P r->Ext F H F' H'->RepN K H F' H' r v->Q v H')->t O H Q
def SimF (t:TE)(E:DE):Prop:=∀F0 H0 F H O M P Q,EnvR K F0 H0 F H O M->E M P->(∀d v F' H',P d->Ext F H F' H'->Rep K F' d v->Q v H')->t O H Q
def SimB (t:TE)(E:DE):Prop:=∀F0 H0 F H O M P Q,EnvR K F0 H0 F H O M->E M P->(∀d v F' H',P d->Ext F H F' H'->Rep K H' d v->Q v H')->t O H Q
def SimT (t:TT)(C:DT):Prop:=∀F0 H0 F H O M P Q,EnvR K F0 H0 F H O M->C M P->(∀b F' H',P b->Ext F H F' H'->Q b H')->t O H Q
def SimAF (t:TA)(E:DA):Prop:=∀F0 H0 F H O M P Q,EnvR K F0 H0 F H O M->E M P->(∀ds vs F' H',P ds->Ext F H F' H'->Reps K F' ds vs->Q vs H')->t O H Q
def SimAB (t:TA)(E:DA):Prop:=∀F0 H0 F H O M P Q,EnvR K F0 H0 F H O M->E M P->(∀ds vs F' H',P ds->Ext F H F' H'->Reps K H' ds vs->Q vs H')->t O H Q
def RepNs (H F' H':Hp)(rs:List OV)(vs:List V):Prop:=∃A,RepOs K F' H' rs vs A/\A.Nodup/\∀a∈A,H a=none/\F' a=none
def SimAO (t:TA)(E:DAO):Prop:=∀F0 H0 F H O M P Q,EnvR K F0 H0 F H O M->E M P->(∀rs vs F' H',P rs->Ext F H F' H'->RepNs K H F' H' rs vs->Q vs H')->t O H Q
structure Lk (F0 H0:Hp) (De:DEnds) (E:Ends):Prop where
 nx:∀F H O M,EnvR K F0 H0 F H O M->De.nx M->E.nx O H
 bk:∀F H O M,EnvR K F0 H0 F H O M->De.bk M->E.bk O H
 ct:∀F H O M,EnvR K F0 H0 F H O M->De.ct M->E.ct O H
 rt:∀F H r v,Ext F0 H0 F H->RepN K H0 F H r v->De.rt r->E.rt v H
def SimS (t:TS)(T:DS):Prop:=∀F0 H0 F H O M De E,EnvR K F0 H0 F H O M->Lk K F0 H0 De E->T De M->t E O H
def SimG (g:TG)(G:D->Dst->(Dst->Prop)->Prop):Prop:=∀F0 H0 F H O M A d v P Q,ER K F0 H0 F H O M A->Rep K F d v->G d M P->(∀O' M' A',P M'->ER K F0 H0 F H O' M' A'->(∀i a,a∈A' i->a∈A i)->Q O' H)->g v O H Q
def SimGs (g:TGs)(G:List D->Dst->(Dst->Prop)->Prop):Prop:=∀F0 H0 F H O M A ds vs P Q,ER K F0 H0 F H O M A->Reps K F ds vs->G ds M P->(∀O' M' A',P M'->ER K F0 H0 F H O' M' A'->(∀i a,a∈A' i->a∈A i)->Q O' H)->g vs O H Q
end
section
variable {K:Frag}{t ta tb tc:TE}{E Ea Eb Ec:DE}
def dFz (E:DE):DO:=λM P=>E M λd=>P (.fz d)
def dVal (E:DO):DE:=λM P=>E M λr=>P r.val
theorem sB_f (h:SimF K t E): SimB K t E:=λF0 H0 F H O M P Q e w q=>h F0 H0 F H O M P Q e w λd v F' H' p x r=>q d v F' H' p x (r.mono x.fh)
theorem sO_f (h:SimF K t E): SimO K t (dFz E):=λF0 H0 F H O M P Q e w q=>h F0 H0 F H O M _ Q e w λd v F' H' p x r=>q _ v F' H' p x (.fz r)
theorem sF_o {E:DO}(h:SimO K t E):SimF K t (dVal E):=λF0 H0 F H O M P Q e w q=>h F0 H0 F H O M _ Q e w λd v F' H' p x r=>by
 obtain⟨F'',x',_,r'⟩:=r.frz x
 exact q _ v F'' H' p x' r'
mutual
def D.lf:D->Bool
 | .tup ds=>D.lfs ds
 | .lst _=>false
 | .dic=>false
 | .exc _=>false
 | .obj _ _ _=>false
 | .clo _ _ _ _=>false
 |_=>true
def D.lfs:List D->Bool
 | []=>true
 |d::ds=>d.lf && D.lfs ds
end
def frzT (F H:Hp):Hp:=λa=>match F a with
 |some o=>some o
 |none=>match H a with
  |some o=>if imm o=true then some o else none
  |none=>none
theorem frzT_ext (s:Same F H): Ext F H (frzT F H) H:=by
 refine⟨λb o e=>?_,Same.refl _,λb o e=>?_,λa o e1 e2 e3=>?_⟩
 .unfold frzT;rw[e]
 .unfold frzT at e
  cases q:F b with
  |some o'=>rw[q]at e;rw[<- e];exact s _ _ q
  |none=>
   rw[q]at e
   cases q2:H b with
   |none=>rw[q2]at e;cases e
   |some o'=>
    rw[q2]at e
    dsimp only at e
    split at e
    .exact e
    .cases e
 .unfold frzT;rw[e1,e2]
  dsimp only
  rw[e3];rfl
theorem frzT_imm (s:Same F H)(h:H a=some o)(hi:imm o=true): frzT F H a=some o:=by
 unfold frzT
 cases q:F a with
 |some o'=>rw[s _ _ q]at h;exact h
 |none=>rw[h];dsimp only;rw[hi];rfl
theorem frzT_seqT (s:Same F H)(h:SqT K H a xs): SqT K (frzT F H) a xs:=by
 rcases h with (h | ⟨o,h⟩) |h
 .exact .inl (.inl (frzT_imm s h rfl))
 .exact .inl (.inr ⟨o,frzT_imm s h rfl⟩)
 .exact .inr h
mutual
theorem Rep.lf (s:Same F H): ∀{d:D} {v:V},Rep K H d v->d.lf=true->Rep K (frzT F H) d v
 | .int _,_,h,_=>h
 | .bl _,_,h,_=>h
 | .non,_,h,_=>h
 | .str _,_,h,_=>h
 | .ty _,_,h,_=>h
 | .fn _,_,h,_=>h
 | .tup ds,v,h,z=>by
  obtain⟨a,vs,e,h1,h2⟩:=h
  exact⟨a,vs,e,frzT_seqT s h1,Reps.lf s h2 (by simpa[D.lf] using z)⟩
 | .lst ds,v,h,z=>by simp[D.lf]at z
 | .dic,v,h,z=>by simp[D.lf]at z
 | .exc _,v,h,z=>by simp[D.lf]at z
 | .obj _ _ _,v,h,z=>by simp[D.lf]at z
 | .clo _ _ _ _,v,h,z=>by simp[D.lf]at z
theorem Reps.lf (s:Same F H): ∀{ds:List D} {vs:List V},Reps K H ds vs->D.lfs ds=true->Reps K (frzT F H) ds vs
 | [],_,h,_=>h
 |d::ds,vs,h,z=>by
  obtain⟨v,r,e,h1,h2⟩:=h
  simp[D.lfs]at z
  exact⟨v,r,e,Rep.lf s h1 z.1,Reps.lf s h2 z.2⟩
end
theorem D.lfs_eq:∀(ds:List D),D.lfs ds=ds.all D.lf
 | []=>rfl
 |d::ds=>by simp[D.lfs,D.lfs_eq ds]
def dLf (E:DE):DE:=λM P=>E M λd=>d.lf=true/\P d
theorem sF_lf (h:SimB K t E): SimF K t (dLf E):=λF0 H0 F H O M P Q e w q=>h F0 H0 F H O M _ Q e w λd v F' H' p x r=>
 q d v _ H' p.2 (x.trans (frzT_ext x.fh)) (Rep.lf x.fh r p.1)
def dV (i:Nat):DE:=λM P=>match M[i]? with
 |some (some (.own (.fz d)))=>P d
 |some (some (.own (.fx _ d)))=>P d
 |_=>False
def dB (i:Nat):DE:=λM P=>match M[i]? with
 |some (some (.own t))=>P t.val
 |some (some (.bw d))=>P d
 |_=>False
theorem sF_var:SimF K (tVar i) (dV i):=λF0 H0 F H O M P Q ⟨A,e⟩ w q=>by
 unfold dV at w
 split at w
 .rename_i d hd
  obtain⟨v,h1,h2⟩:=e.own i _ hd
  exact⟨v,h1,q d v F H w (Ext.refl e.ext.fh) h2.2⟩
 .rename_i u d hd
  obtain⟨v,h1,h2⟩:=e.own i _ hd
  exact⟨v,h1,q d v F H w (Ext.refl e.ext.fh) h2.2.2⟩
 .exact w.elim
theorem sB_var:SimB K (tVar i) (dB i):=λF0 H0 F H O M P Q ⟨A,e⟩ w q=>by
 unfold dB at w
 split at w
 .rename_i t hd
  obtain⟨v,h1,h2⟩:=e.own i _ hd
  exact⟨v,h1,q _ v F H w (Ext.refl e.ext.fh) (h2.rep e.ext.fh λa _ xs z=>z)⟩
 .rename_i d hd
  obtain⟨v,h1,h2⟩:=e.bw i _ hd
  exact⟨v,h1,q _ v F H w (Ext.refl e.ext.fh) (h2.mono e.ext.hh)⟩
 .exact w.elim
def dC (d:D):DE:=λ_ P=>P d
theorem sF_c (h:∀F,Rep K F d v): SimF K (tC v) (dC d):=λF0 H0 F H O M P Q e w q=>q d v F H w (Ext.refl e.ext.fh) (h _)
theorem sF_int:SimF K (tC (.int i)) (dC (.int i)):=sF_c λ_=>rfl
theorem sF_bl:SimF K (tC (.bl b)) (dC (.bl b)):=sF_c λ_=>rfl
theorem sF_non:SimF K (tC .non) (dC .non):=sF_c λ_=>rfl
theorem sF_ty:SimF K (tC (.ty n)) (dC (.ty n)):=sF_c λ_=>rfl
abbrev DR2:=D->D->(D->Prop)->Prop
def OpS (K:Frag)(R:R2)(r:DR2):Prop:=∀F H x y v u P Q,Same F H->Rep K H x v->Rep K H y u->r x y P->(∀d w F' H',P d->Ext F H F' H'->Rep K F' d w->Q w H')->R v u H Q
def OpB (K:Frag)(R:R2)(r:DR2):Prop:=∀H x y v u P Q,Rep K H x v->Rep K H y u->r x y P->(∀d w,P d->Rep K H d w->Q w H)->R v u H Q
def dOp (r:DR2)(Ea Eb:DE):DE:=λM P=>Ea M λx=>Eb M λy=>r x y P
theorem sF_op (h:OpS K R r)(ha:SimB K ta Ea)(hb:SimB K tb Eb): SimF K (tOp R ta tb) (dOp r Ea Eb):=λF0 H0 F H O M P Q e w q=>
 ha F0 H0 F H O M _ _ e w λx v F1 H1 w1 x1 r1=>hb F0 H0 F1 H1 O M _ _ (e.on x1) w1 λy u F2 H2 w2 x2 r2=>
  h F2 H2 x y v u P _ x2.fh (r1.mono x2.hh) r2 w2 λd w F' H' p x' r'=>q d w F' H' p (x1.trans (x2.trans x')) r'
theorem sB_op (h:OpB K R r)(ha:SimB K ta Ea)(hb:SimB K tb Eb): SimB K (tOp R ta tb) (dOp r Ea Eb):=λF0 H0 F H O M P Q e w q=>
 ha F0 H0 F H O M _ _ e w λx v F1 H1 w1 x1 r1=>hb F0 H0 F1 H1 O M _ _ (e.on x1) w1 λy u F2 H2 w2 x2 r2=>
  h H2 x y v u P _ (r1.mono x2.hh) r2 w2 λd w p r'=>q d w F2 H2 p (x1.trans x2) r'
def rI2 (g:Int->Int->D):DR2:=λx y P=>match x,y with
 | .int i,.int j=>P (g i j)
 |_,_=>False
def rI2C (C:Int->Int->Prop)(g:Int->Int->D):DR2:=λx y P=>match x,y with
 | .int i,.int j=>C i j/\P (g i j)
 |_,_=>False
theorem rI2_inv {g:Int->Int->D}{P:D->Prop}(h:rI2 g x y P): ∃i j,x = .int i/\y = .int j/\P (g i j):=by
 unfold rI2 at h
 split at h
 .exact ⟨_,_,rfl,rfl,h⟩
 .exact h.elim
theorem rI2C_inv {C:Int->Int->Prop}{g:Int->Int->D}{P:D->Prop}(h:rI2C C g x y P): ∃i j,x = .int i/\y = .int j/\C i j/\P (g i j):=by
 unfold rI2C at h
 split at h
 .exact ⟨_,_,rfl,rfl,h.1,h.2⟩
 .exact h.elim
theorem oS_I0 {g:Int->Int->V}{g':Int->Int->D}(hg:∀F i j,Rep K F (g' i j) (g i j)): OpS K (rI0 g) (rI2 g'):=λF H x y v u P Q s rx ry w q=>by
 obtain⟨i,j,rfl,rfl,p⟩:=rI2_inv w
 exact⟨i,j,rx,ry,q _ _ F H p (Ext.refl s) (hg _ _ _)⟩
theorem oS_I {C:Int->Int->Prop}{g:Int->Int->V}{g':Int->Int->D}(hg:∀F i j,Rep K F (g' i j) (g i j)): OpS K (rI C g) (rI2C C g'):=λF H x y v u P Q s rx ry w q=>by
 obtain⟨i,j,rfl,rfl,c,p⟩:=rI2C_inv w
 exact⟨i,j,rx,ry,c,q _ _ F H p (Ext.refl s) (hg _ _ _)⟩
theorem oS_i0 {g:Int->Int->Int}: OpS K (rI0 λi j=>.int (g i j)) (rI2 λi j=>.int (g i j)):=oS_I0 λ_ _ _=>rfl
theorem oS_i {C:Int->Int->Prop}{g:Int->Int->Int}: OpS K (rI C λi j=>.int (g i j)) (rI2C C λi j=>.int (g i j)):=oS_I λ_ _ _=>rfl
theorem oS_b0 {g:Int->Int->Bool}: OpS K (rI0 λi j=>.bl (g i j)) (rI2 λi j=>.bl (g i j)):=oS_I0 λ_ _ _=>rfl
def rEqD:DR2:=λx y P=>match x,y with
 | .int i,.int j=>P (.bl (decide (i=j)))
 | .str i,.str j=>P (.bl (decide (i=j)))
 | .bl i,.bl j=>P (.bl (decide (i=j)))
 |_,_=>False
def rNeD:DR2:=λx y P=>match x,y with
 | .int i,.int j=>P (.bl (!decide (i=j)))
 | .str i,.str j=>P (.bl (!decide (i=j)))
 | .bl i,.bl j=>P (.bl (!decide (i=j)))
 |_,_=>False
theorem vd_int:decide (V.int i=V.int j)=decide (i=j):=by
 by_cases h:i=j
 .subst h;simp
 .rw [decide_eq_false h,decide_eq_false λz=>h (by injection z)]
theorem vd_str:decide (V.str i=V.str j)=decide (i=j):=by
 by_cases h:i=j
 .subst h;simp
 .rw [decide_eq_false h,decide_eq_false λz=>h (by injection z)]
theorem vd_bl:decide (V.bl i=V.bl j)=decide (i=j):=by
 by_cases h:i=j
 .subst h;simp
 .rw [decide_eq_false h,decide_eq_false λz=>h (by injection z)]
theorem oS_eq:OpS K rEq rEqD:=λF H x y v u P Q s rx ry w q=>by
 unfold rEqD at w
 split at w
 .cases rx;cases ry;exact⟨rfl,by rw[vd_int];exact q _ _ F H w (Ext.refl s) rfl⟩
 .cases rx;cases ry;exact⟨rfl,by rw[vd_str];exact q _ _ F H w (Ext.refl s) rfl⟩
 .cases rx;cases ry;exact⟨rfl,by rw[vd_bl];exact q _ _ F H w (Ext.refl s) rfl⟩
 .exact w.elim
theorem oS_ne:OpS K rNe rNeD:=λF H x y v u P Q s rx ry w q=>by
 unfold rNeD at w
 split at w
 .cases rx;cases ry;exact⟨rfl,by rw[vd_int];exact q _ _ F H w (Ext.refl s) rfl⟩
 .cases rx;cases ry;exact⟨rfl,by rw[vd_str];exact q _ _ F H w (Ext.refl s) rfl⟩
 .cases rx;cases ry;exact⟨rfl,by rw[vd_bl];exact q _ _ F H w (Ext.refl s) rfl⟩
 .exact w.elim
def D.isNon:D->Bool
 | .non=>true
 |_=>false
def rNotN:DR2:=λx y P=>match y with
 | .non=>P (.bl (!x.isNon))
 |_=>False
theorem isNon_rep:∀{x:D} {v:V},Rep K F x v->decide (v = .non)=x.isNon
 | .int _,_,h=>by rw[show _=V.int _ from h];rfl
 | .bl _,_,h=>by rw[show _=V.bl _ from h];rfl
 | .non,_,h=>by rw[show _=V.non from h];rfl
 | .str _,_,h=>by rw[show _=V.str _ from h];rfl
 | .ty _,_,h=>by rw[show _=V.ty _ from h];rfl
 | .fn _,_,h=>by obtain⟨f,rfl,_⟩:=h;rfl
 | .tup _,_,h=>by obtain⟨a,vs,rfl,_⟩:=h;rfl
 | .lst _,_,h=>by obtain⟨a,vs,rfl,_⟩:=h;rfl
 | .dic,_,h=>by obtain⟨a,rfl,_⟩:=h;rfl
 | .exc _,_,h=>by obtain⟨a,C,rfl,_⟩:=h;rfl
 | .obj _ _ _,_,h=>by obtain⟨a,C,dx,vs,rfl,_⟩:=h;rfl
 | .clo _ _ _ _,_,h=>by obtain⟨_,_,_,_,_,_,_,rfl,_⟩:=h;rfl
theorem oS_notN:OpS K (λx y H Q=>y = .non/\Q (.bl (!decide (x = .non))) H) rNotN:=λF H x y v u P Q s rx ry w q=>by
 unfold rNotN at w
 split at w
 .refine ⟨ry,?_⟩
  rw[isNon_rep rx]
  exact q _ _ F H w (Ext.refl s) rfl
 .exact w.elim
def dUn (r:D->(D->Prop)->Prop)(Ea:DE):DE:=λM P=>Ea M λx=>r x P
def rU1 (g:Int->D):D->(D->Prop)->Prop:=λx P=>match x with
 | .int i=>P (g i)
 |_=>False
theorem sF_neg {g:Int->Int}(ha:SimB K ta Ea): SimF K (tUn (rU λi=>.int (g i)) ta) (dUn (rU1 λi=>.int (g i)) Ea):=λF0 H0 F H O M P Q e w q=>
 ha F0 H0 F H O M _ _ e w λx v F1 H1 w1 x1 r1=>by
  unfold rU1 at w1
  split at w1
  .exact ⟨_,r1,q _ _ F1 H1 w1 x1 rfl⟩
  .exact w1.elim
def dTb (E:DE):DT:=λM P=>E M λd=>match d with
 | .bl b=>P b
 |_=>False
theorem sT_of (h:SimF K t E): ∀(F0 H0 F H:Hp) (O:St) (M:Dst) (P:Bool->Prop) (Q:Bool->Hp->Prop),EnvR K F0 H0 F H O M->dTb E M P->(∀b F' H',P b->Ext F H F' H'->Q b H')->t O H λx H'=>∃k,x = .bl k/\Q k H':=λF0 H0 F H O M P Q e w q=>
 h F0 H0 F H O M _ _ e w λd v F' H' p x r=>by
  split at p
  .exact ⟨_,r,q _ F' H' p x⟩
  .exact p.elim
theorem sT_test (h:SimF K t E): SimT K (tTest t) (dTb E):=sT_of h
theorem sT_b (h:SimF K t E): SimT K (tB t) (dTb E):=sT_of h
section
variable {ua ub:TT}{Ca Cb:DT}
def dNot (C:DT):DT:=λM P=>C M λb=>P (!b)
def dAnd (Ca Cb:DT):DT:=λM P=>Ca M λb=>if b=true then Cb M P else P false
def dOr (Ca Cb:DT):DT:=λM P=>Ca M λb=>if b=true then P true else Cb M P
theorem sT_not (h:SimT K ua Ca): SimT K (tNot ua) (dNot Ca):=λF0 H0 F H O M P Q e w q=>h F0 H0 F H O M _ _ e w λb F' H' p x=>q _ F' H' p x
theorem sT_and (h:SimT K ua Ca)(g:SimT K ub Cb): SimT K (tAnd ua ub) (dAnd Ca Cb):=λF0 H0 F H O M P Q e w q=>h F0 H0 F H O M _ _ e w λb F' H' p x=>by
 cases b with
 |true=>exact iteT (g F0 H0 F' H' O M P Q (e.on x) p λb F2 H2 p2 x2=>q b F2 H2 p2 (x.trans x2))
 |false=>exact iteB rfl (q _ F' H' p x)
theorem sT_or (h:SimT K ua Ca)(g:SimT K ub Cb): SimT K (tOr ua ub) (dOr Ca Cb):=λF0 H0 F H O M P Q e w q=>h F0 H0 F H O M _ _ e w λb F' H' p x=>by
 cases b with
 |true=>exact iteT (q _ F' H' p x)
 |false=>exact iteB rfl (g F0 H0 F' H' O M P Q (e.on x) p λb F2 H2 p2 x2=>q b F2 H2 p2 (x.trans x2))
end
def dAndV (Ea Eb:DE):DE:=λM P=>Ea M λx=>match x with
 | .bl c=>if c=true then Eb M P else P (.bl false)
 |_=>False
def dNotV (Ea:DE):DE:=λM P=>Ea M λx=>match x with
 | .bl c=>P (.bl (!c))
 |_=>False
theorem sF_andV (ha:SimF K ta Ea)(hb:SimF K tb Eb): SimF K (tAndV ta tb) (dAndV Ea Eb):=λF0 H0 F H O M P Q e w q=>ha F0 H0 F H O M _ _ e w λd v F' H' p x r=>by
 split at p
 .rename_i c
  refine⟨c,r,?_⟩
  cases c with
  |true=>exact iteT (hb F0 H0 F' H' O M P Q (e.on x) p λd v F2 H2 p2 x2 r=>q d v F2 H2 p2 (x.trans x2) r)
  |false=>exact iteB rfl (q _ _ F' H' p x rfl)
 .exact p.elim
theorem sF_notV (ha:SimF K ta Ea): SimF K (tNotV ta) (dNotV Ea):=λF0 H0 F H O M P Q e w q=>ha F0 H0 F H O M _ _ e w λd v F' H' p x r=>by
 split at p
 .exact ⟨_,r,q _ _ F' H' p x rfl⟩
 .exact p.elim
def dChain (r r':DR2)(Ea Eb Ec:DE):DE:=λM P=>Ea M λx=>Eb M λy=>r x y λz=>match z with
 | .bl k=>if k=true then Ec M λw=>r' y w P else P (.bl false)
 |_=>False
theorem sF_chain (h:OpS K R r)(h':OpS K R' r')(ha:SimB K ta Ea)(hb:SimB K tb Eb)(hc:SimB K tc Ec): SimF K (tChain R R' ta tb tc) (dChain r r' Ea Eb Ec):=λF0 H0 F H O M P Q e w q=>
 ha F0 H0 F H O M _ _ e w λx v F1 H1 w1 x1 r1=>hb F0 H0 F1 H1 O M _ _ (e.on x1) w1 λy u F2 H2 w2 x2 r2=>
  h F2 H2 x y v u _ _ x2.fh (r1.mono x2.hh) r2 w2 λd w F3 H3 p x3 r3=>by
   have x13:=x1.trans (x2.trans x3)
   split at p
   .rename_i k
    refine⟨k,r3,?_⟩
    cases k with
    |true=>exact iteT (hc F0 H0 F3 H3 O M _ _ (e.on x13) p λz w4 F4 H4 p4 x4 r4=>h' F4 H4 y z u w4 P Q x4.fh (r2.mono (x3.hh.trans x4.hh)) r4 p4 λd w F5 H5 p5 x5 r5=>q d w F5 H5 p5 (x13.trans (x4.trans x5)) r5)
    |false=>exact iteB rfl (q _ _ F3 H3 p x13 rfl)
   .exact p.elim
section
variable {a:TA}{As:DA}
def dNil:DA:=λ_ P=>P []
def dCons (Ea:DE)(As:DA):DA:=λM P=>Ea M λd=>As M λds=>P (d::ds)
theorem sAB_nil:SimAB K tNil dNil:=λF0 H0 F H O M P Q e w q=>q [] [] F H w (Ext.refl e.ext.fh) rfl
theorem sAF_nil:SimAF K tNil dNil:=λF0 H0 F H O M P Q e w q=>q [] [] F H w (Ext.refl e.ext.fh) rfl
theorem sAB_cons (ha:SimB K ta Ea)(hr:SimAB K a As): SimAB K (tCons ta a) (dCons Ea As):=λF0 H0 F H O M P Q e w q=>ha F0 H0 F H O M _ _ e w λd v F1 H1 w1 x1 r1=>
 hr F0 H0 F1 H1 O M _ _ (e.on x1) w1 λds vs F2 H2 w2 x2 r2=>q (d::ds) (v::vs) F2 H2 w2 (x1.trans x2) ⟨v,vs,rfl,r1.mono x2.hh,r2⟩
theorem sAF_cons (ha:SimF K ta Ea)(hr:SimAF K a As): SimAF K (tCons ta a) (dCons Ea As):=λF0 H0 F H O M P Q e w q=>ha F0 H0 F H O M _ _ e w λd v F1 H1 w1 x1 r1=>
 hr F0 H0 F1 H1 O M _ _ (e.on x1) w1 λds vs F2 H2 w2 x2 r2=>q (d::ds) (v::vs) F2 H2 w2 (x1.trans x2) ⟨v,vs,rfl,r1.mono x2.ff,r2⟩
def dNilO:DAO:=λ_ P=>P []
def dConsO (Ea:DO)(As:DAO):DAO:=λM P=>Ea M λd=>As M λds=>P (d::ds)
theorem sAO_nil:SimAO K tNil dNilO:=λF0 H0 F H O M P Q e w q=>q [] [] F H w (Ext.refl e.ext.fh) ⟨[],⟨rfl,rfl⟩,nodup_nil,λ_ h=>by cases h⟩
theorem sAO_cons (ha:SimO K ta Eo)(hr:SimAO K a Ao): SimAO K (tCons ta a) (dConsO Eo Ao):=λF0 H0 F H O M P Q e w q=>ha F0 H0 F H O M _ _ e w λd v F1 H1 w1 x1 r1=>
 hr F0 H0 F1 H1 O M _ _ (e.on x1) w1 λds vs F2 H2 w2 x2 r2=>q (d::ds) (v::vs) F2 H2 w2 (x1.trans x2) (by
  obtain⟨A,a1,a2,a3⟩:=r1
  obtain⟨B,b1,b2,b3⟩:=r2
  refine⟨A++B,⟨v,vs,A,B,rfl,rfl,a1.frame x2.ff λa _ xs e=>x2.hh _ _ e,b1⟩,nodup_append.mpr ⟨a2,b2,λx hx y hy z=>?_⟩,λz hz=>?_⟩
  .subst z
   obtain⟨xs,hxs,_⟩:=a1.isl _ hx
   rw[(b3 _ hy).1]at hxs;cases hxs
  .rcases mem_append.mp hz with h |h
   .obtain ⟨xs,hxs,hxi⟩:=a1.isl _ h
    exact⟨(a3 z h).1,x2.no z _ (a3 z h).2 hxs hxi⟩
   .exact ⟨x1.hh.free (b3 z h).1,(b3 z h).2⟩)
def dTup (As:DA):DE:=λM P=>As M λds=>ds.length<=1000000/\P (.tup ds)
theorem sz_le (h:n<=1000000): n<=sizeLine:=by rw[sizeLine_eq];lia
theorem sz_lt (h:n<1000000): n<sizeLine:=by rw[sizeLine_eq];lia
theorem Ext.new (s:Same F H)(hp:H p=none)(hs:Same H H')(h:H' p=some o): Ext F H (upd F p o) H':=by
 refine⟨λb u e=>?_,hs,λb u e=>?_,λb u e1 e2 e3=>?_⟩
 .rw [upd_ne λz=>by rw[z,s.free hp]at e;cases e];exact e
 .by_cases hb:b=p
  .subst hb;rw[upd_same]at e;rw[<- e];exact h
  .rw [upd_ne hb]at e;exact hs _ _ (s _ _ e)
 .rw [upd_ne λz=>by rw[z,hp]at e2;cases e2];exact e1
theorem Same.upd' (h:F p=none): Same F (upd F p o):=Same.new h
theorem sF_tup (h:SimAF K a As): SimF K (tTupS a) (dTup As):=λF0 H0 F H O M P Q e w q=>h F0 H0 F H O M _ _ e w λds vs F1 H1 w1 x1 r1=>by
 have hl:=r1.length
 refine⟨sz_le (by lia),λp H' hp hs he=>?_⟩
 exact q _ _ _ H' w1.2 (x1.trans (Ext.new x1.fh hp hs he)) ⟨p,vs,rfl,.inl (.inl upd_same),r1.mono (Same.upd' (x1.fh.free hp))⟩
def dLst (As:DAO):DO:=λM P=>As M λts=>ts.length<=1000000/\P (.nl ts)
theorem sO_lst (h:SimAO K a Ao): SimO K (tLstS a) (dLst Ao):=λF0 H0 F H O M P Q e w q=>h F0 H0 F H O M _ _ e w λts vs F1 H1 w1 x1 r1=>by
 obtain⟨A,a1,a2,a3⟩:=r1
 have hl:=a1.length
 refine⟨sz_le (by lia),λp H' hp hs he=>?_⟩
 refine q _ _ F1 H' w1.2 (x1.trans ⟨Same.refl _,hs,x1.fh.trans hs,λ_ _ z _ _=>z⟩) ⟨p::A,⟨p,vs,A,rfl,rfl,he,a1.frame (Same.refl _) λb _ xs z=>hs _ _ z⟩,nodup_cons.mpr ⟨λz=>?_,a2⟩,λb hb=>?_⟩
 .obtain ⟨xs,z,_⟩:=a1.isl p z
  rw[hp]at z;cases z
 .rcases mem_cons.mp hb with rfl |hb
  .exact ⟨x1.hh.free hp,x1.fh.free hp⟩
  .exact a3 b hb
end
end
section
variable {K:Frag}{t ta tb tc:TE}{E Ea Eb Ec:DE}{a:TA}{As:DA}{Ao:DAO}
theorem Reps.atI (h:Reps K F ds vs)(e:L2.atI ds i=some d): ∃v,L2.atI vs i=some v/\Rep K F d v:=by
 unfold L2.atI at e ⊢
 rw[h.length]at e
 cases q:ixN vs.length i with
 |none=>rw[q]at e;cases e
 |some j=>
  rw[q]at e
  exact h.get e
def ixL:DR2:=λx y P=>match x,y with
 | .lst ds,.int i=>∃d,atI ds i=some d/\P d
 |_,_=>False
def ixT:DR2:=λx y P=>match x,y with
 | .tup ds,.int i=>∃d,atI ds i=some d/\P d
 |_,_=>False
def OpF (K:Frag)(R:R2)(r:DR2):Prop:=∀F H x y v u P Q,Same F H->Rep K F x v->Rep K F y u->r x y P->(∀d w,P d->Rep K F d w->Q w H)->R v u H Q
theorem OpF.b (h:OpF K R r): OpB K R r:=λH x y v u P Q rx ry w q=>h H H x y v u P Q (Same.refl _) rx ry w q
theorem sF_opF (h:OpF K R r)(ha:SimF K ta Ea)(hb:SimF K tb Eb): SimF K (tOp R ta tb) (dOp r Ea Eb):=λF0 H0 F H O M P Q e w q=>
 ha F0 H0 F H O M _ _ e w λx v F1 H1 w1 x1 r1=>hb F0 H0 F1 H1 O M _ _ (e.on x1) w1 λy u F2 H2 w2 x2 r2=>
  h F2 H2 x y v u P _ x2.fh (r1.mono x2.ff) r2 w2 λd w p r'=>q d w F2 H2 p (x1.trans x2) r'
theorem oF_ixL:OpF K (rIxL K) ixL:=λF H x y v u P Q s rx ry w q=>by
 unfold ixL at w
 split at w
 .obtain ⟨d,e,w⟩:=w
  obtain⟨p,vs,rfl,h1,h2⟩:=rx
  obtain⟨v',e',r⟩:=h2.atI e
  exact⟨p,vs,_,v',rfl,ry,s.seq h1,e',q d v' w r⟩
 .exact w.elim
theorem oF_ixT:OpF K (rIxT K) ixT:=λF H x y v u P Q s rx ry w q=>by
 unfold ixT at w
 split at w
 .obtain ⟨d,e,w⟩:=w
  obtain⟨p,vs,rfl,h1,h2⟩:=rx
  obtain⟨v',e',r⟩:=h2.atI e
  exact⟨p,vs,_,v',rfl,ry,s.seqT h1,e',q d v' w r⟩
 .exact w.elim
def CbS (K:Frag)(R:List V->Hp->VK->Prop)(r:List D->(D->Prop)->Prop):Prop:=∀F H ds vs P Q,Same F H->Reps K H ds vs->r ds P->(∀d w F' H',P d->Ext F H F' H'->Rep K F' d w->Q w H')->R vs H Q
def CbO (K:Frag)(R:List V->Hp->VK->Prop)(r:List D->(OV->Prop)->Prop):Prop:=∀F H ds vs P Q,Same F H->Reps K F ds vs->r ds P->(∀o w F' H',P o->Ext F H F' H'->RepN K H F' H' o w->Q w H')->R vs H Q
def dCB (r:List D->(D->Prop)->Prop)(As:DA):DE:=λM P=>As M λds=>r ds P
def dCBo (r:List D->(OV->Prop)->Prop)(As:DA):DO:=λM P=>As M λds=>r ds P
theorem sF_cb {R:List V->Hp->VK->Prop}{r:List D->(D->Prop)->Prop}(h:CbS K R r)(ha:SimAB K a As): SimF K (tCB R a) (dCB r As):=λF0 H0 F H O M P Q e w q=>
 ha F0 H0 F H O M _ _ e w λds vs F1 H1 w1 x1 r1=>h F1 H1 ds vs P _ x1.fh r1 w1 λd w F' H' p x' r'=>q d w F' H' p (x1.trans x') r'
theorem sO_cb {R:List V->Hp->VK->Prop}{r:List D->(OV->Prop)->Prop}(h:CbO K R r)(ha:SimAF K a As): SimO K (tCB R a) (dCBo r As):=λF0 H0 F H O M P Q e w q=>
 ha F0 H0 F H O M _ _ e w λds vs F1 H1 w1 x1 r1=>h F1 H1 ds vs P _ x1.fh r1 w1 λd w F' H' p x' r'=>q d w F' H' p (x1.trans x') (r'.old x1.hh)
theorem reps1 (h:Reps K F [d] vs): ∃v,vs=[v]/\Rep K F d v:=by
 obtain⟨v,r,rfl,h1,h2⟩:=h
 exact⟨v,by rw[show r=[] from h2],h1⟩
theorem reps2 (h:Reps K F [d,d'] vs): ∃v u,vs=[v,u]/\Rep K F d v/\Rep K F d' u:=by
 obtain⟨v,r,rfl,h1,h2⟩:=h
 obtain⟨u,rfl,h3⟩:=reps1 h2
 exact⟨v,u,rfl,h1,h3⟩
def lenD:List D->(D->Prop)->Prop:=λds P=>match ds with
 | [.lst xs]=>P (.int xs.length)
 | [.tup xs]=>P (.int xs.length)
 |_=>False
theorem cS_len:CbS K (λxs H Q=>∃p ys,xs=[.ref p]/\(SqL K H p ys∨SqT K H p ys)/\Q (.int ys.length) H) lenD:=λF H ds vs P Q s rs w q=>by
 unfold lenD at w
 split at w
 .obtain ⟨v,rfl,p,us,rfl,h1,h2⟩:=reps1 rs
  exact⟨p,us,rfl,.inl h1,by rw[<- h2.length];exact q _ _ F H w (Ext.refl s) rfl⟩
 .obtain ⟨v,rfl,p,us,rfl,h1,h2⟩:=reps1 rs
  exact⟨p,us,rfl,.inr h1,by rw[<- h2.length];exact q _ _ F H w (Ext.refl s) rfl⟩
 .exact w.elim
def listD:List D->(OV->Prop)->Prop:=λds P=>match ds with
 | [.lst xs]=>P (.nl (xs.map .fz))
 | [.tup xs]=>P (.nl (xs.map .fz))
 |_=>False
theorem RepN.list (h0:H l=none)(f0:F' l=none)(h:H' l=some (.lst vs))(r:Reps K F' ds vs): RepN K H F' H' (.nl (ds.map .fz)) (.ref l):=
 ⟨[l],⟨l,vs,[],rfl,rfl,h,RepOs.fzs r⟩,by simp,λa ha=>by
  have e:a=l:=by simpa using ha
  rw[e];exact⟨h0,f0⟩⟩
theorem Ext.grow (s:Same F H)(h:Same H H'): Ext F H F H':=⟨Same.refl _,h,s.trans h,λ_ _ z _ _=>z⟩
theorem cO_list:CbO K (rListS K) listD:=λF H ds vs P Q s rs w q=>by
 unfold listD at w
 split at w
 .obtain ⟨v,rfl,p,us,rfl,h1,h2⟩:=reps1 rs
  exact⟨p,us,rfl,.inl (s.seq h1),λl H' l0 sm l1=>q _ _ F H' w (Ext.grow s sm) (RepN.list l0 (s.free l0) l1 h2)⟩
 .obtain ⟨v,rfl,p,us,rfl,h1,h2⟩:=reps1 rs
  exact⟨p,us,rfl,.inr (s.seqT h1),λl H' l0 sm l1=>q _ _ F H' w (Ext.grow s sm) (RepN.list l0 (s.free l0) l1 h2)⟩
 .exact w.elim
def tupD:List D->(OV->Prop)->Prop:=λds P=>match ds with
 | [.lst xs]=>P (.fz (.tup xs))
 |_=>False
theorem cO_tup:CbO K (rTupleS K) tupD:=λF H ds vs P Q s rs w q=>by
 unfold tupD at w
 split at w
 .obtain ⟨v,rfl,p,us,rfl,h1,h2⟩:=reps1 rs
  exact⟨p,us,rfl,s.seq h1,λl H' l0 sm l1=>q _ _ _ H' w (Ext.new s l0 sm l1) (.fz ⟨l,us,rfl,.inl (.inl upd_same),h2.mono (Same.upd' (s.free l0))⟩)⟩
 .exact w.elim
abbrev DPt:=Dst->(Option Int->Prop)->Prop
def SimP (K:Frag)(t:TO)(E:DPt):Prop:=∀F0 H0 F H O M P Q,EnvR K F0 H0 F H O M->E M P->(∀o F' H',P o->Ext F H F' H'->Q o H')->t O H Q
def dNoPt:DPt:=λ_ P=>P none
def dPt (E:DE):DPt:=λM P=>E M λd=>match d with
 | .int i=>P (some i)
 |_=>False
theorem sP_no:SimP K tNoPart dNoPt:=λF0 H0 F H O M P Q e w q=>q none F H w (Ext.refl e.ext.fh)
theorem sP_pt (h:SimB K t E): SimP K (tPart t) (dPt E):=λF0 H0 F H O M P Q e w q=>h F0 H0 F H O M _ _ e w λd v F1 H1 w1 x1 r1=>by
 split at w1
 .exact ⟨_,r1,q _ F1 H1 w1 x1⟩
 .exact w1.elim
def cutD (xs:List D)(lo hi:Option Int):List D:=(xs.drop (HT.sIx xs.length 0 lo)).take (HT.sIx xs.length xs.length hi-HT.sIx xs.length 0 lo)
theorem Reps.cut (h:Reps K F ds vs)(lo hi:Option Int): Reps K F (cutD ds lo hi) (cutV vs lo hi):=by
 unfold cutD cutV
 rw[h.length]
 exact (h.drop _).take _
def dSlL (Ea:DE)(L U:DPt):DO:=λM P=>Ea M λx=>L M λlo=>U M λhi=>match x with
 | .lst xs=>P (.nl ((cutD xs lo hi).map .fz))
 |_=>False
theorem sO_slL (ha:SimF K ta Ea)(hl:SimP K tl L)(hu:SimP K tu U): SimO K (tSl (rSlS K) ta tl tu) (dSlL Ea L U):=λF0 H0 F H O M P Q e w q=>
 ha F0 H0 F H O M _ _ e w λx v F1 H1 w1 x1 r1=>hl F0 H0 F1 H1 O M _ _ (e.on x1) w1 λlo F2 H2 w2 x2=>hu F0 H0 F2 H2 O M _ _ ((e.on x1).on x2) w2 λhi F3 H3 w3 x3=>by
  have x13:=x1.trans (x2.trans x3)
  split at w3
  .obtain ⟨p,vs,rfl,h1,h2⟩:=r1.mono (x2.ff.trans x3.ff)
   exact⟨p,vs,rfl,x3.fh.seq h1,λl H' l0 sm l1=>q _ _ F3 H' w3 (x13.trans (Ext.grow x3.fh sm)) (RepN.list (x13.hh.free l0) (x3.fh.free l0) l1 (h2.cut lo hi))⟩
  .exact w3.elim
mutual
def OV.lf:OV->Bool
 | .fz d=>d.lf
 | .nl ts=>OV.lfs ts
 | .rt _ ts=>OV.lfs ts
 | .fx _ d=>d.lf
 | .ob _ _ _ ts=>OV.lfs ts
def OV.lfs:List OV->Bool
 | []=>true
 |t::ts=>t.lf && OV.lfs ts
end
theorem OV.lfs_eq:∀(ts:List OV),OV.lfs ts=ts.all OV.lf
 | []=>rfl
 |d::ds=>by simp[OV.lfs,OV.lfs_eq ds]
mutual
theorem RepO.lf (s:Same F F'): ∀{t:OV} {v:V} {A:List Addr},RepO K F' H' t v A->t.lf=true->RepO K (frzT F F') H' t v A
 | .fz d,v,A,h,z=>⟨h.1,Rep.lf s h.2 (by simpa[OV.lf] using z)⟩
 | .nl ts,v,A,h,z=>by
  obtain⟨a,vs,B,e,e2,h1,h2⟩:=h
  exact⟨a,vs,B,e,e2,h1,RepOs.lf s h2 (by simpa[OV.lf] using z)⟩
 | .fx u d,v,A,h,z=>⟨h.1,h.2.1,Rep.lf s h.2.2 (by simpa[OV.lf] using z)⟩
 | .rt a ts,v,A,h,z=>by
  obtain⟨vs,B,e,e2,h1,h2⟩:=h
  exact⟨vs,B,e,e2,h1,RepOs.lf s h2 (by simpa[OV.lf] using z)⟩
 | .ob o c ns ts,v,A,h,z=>by
  obtain⟨a,C,dx,vs,B,e,e2,h0,ho,h1,h2,hl,h3⟩:=h
  exact⟨a,C,dx,vs,B,e,e2,h0,ho,h1,h2,hl,RepOs.lf s h3 (by simpa[OV.lf] using z)⟩
theorem RepOs.lf {F F' H':Hp}(s:Same F F'):∀{ts:List OV} {vs:List V} {A:List Addr},RepOs K F' H' ts vs A->OV.lfs ts=true->RepOs K (frzT F F') H' ts vs A
 | [],_,_,h,_=>h
 |t::ts,vs,A,h,z=>by
  obtain⟨v,r,B,C,e1,e2,h1,h2⟩:=h
  simp[OV.lfs]at z
  exact⟨v,r,B,C,e1,e2,RepO.lf s h1 z.1,RepOs.lf s h2 z.2⟩
end
abbrev DSp:=List D->(OV->Prop)->Prop
def spV (K:Frag)(n:Nat)(sp:DSp):Sp:=spL n λvs H Q=>∃F ds P,Same F H/\Reps K F ds vs/\sp ds P/\∀r v F' H',P r->Ext F H F' H'->RepN K H F' H' r v->Q v H'
def dCall (n:Nat)(sp:DSp)(As:DA):DO:=λM P=>As M λds=>ds.length=n/\sp ds P
def dCallB (n:Nat)(sp:DSp)(As:DA):DO:=λM P=>As M λds=>ds.length=n/\sp ds λr=>r.lf=true/\P r
theorem sO_call (ha:SimAF K a As): SimO K (tCall (spV K n sp) [] E0 a) (dCall n sp As):=λF0 H0 F H O M P Q e w q=>ha F0 H0 F H O M _ _ e w λds vs F1 H1 w1 x1 r1=>by
 rw[append_nil]
 exact⟨by rw[<- r1.length];exact w1.1,F1,ds,P,x1.fh,r1,w1.2,λr v F' H' p x' r'=>q r v F' H' p (x1.trans x') (r'.old x1.hh)⟩
theorem sO_callB (ha:SimAB K a As): SimO K (tCall (spV K n sp) [] E0 a) (dCallB n sp As):=λF0 H0 F H O M P Q e w q=>ha F0 H0 F H O M _ _ e w λds vs F1 H1 w1 x1 r1=>by
 rw[append_nil]
 refine⟨by rw[<- r1.length];exact w1.1,H1,ds,_,Same.refl _,r1,w1.2,λr v F' H' p x' r'=>?_⟩
 have s1:Same F1 F':=x1.fh.trans x'.ff
 have x2:=frzT_ext s1
 obtain⟨A,a1,a2,a3⟩:=r'
 refine q r v (frzT F1 F') H' p.2 (x1.trans ⟨x2.ff,x'.hh,x2.fh.trans x'.fh,λb o z1 z2 z3=>?_⟩) ⟨A,a1.lf s1 p.1,a2,λb hb=>⟨x1.hh.free (a3 b hb).1,x2.fh.free (a3 b hb).2⟩⟩
 exact x2.no b o z1 (x'.ff _ _ z2) z3
end
section
variable {K:Frag}{te ti ta:TE}{E Ea Ei:DE}{Eo:DO}{t u:TS}{T U:DS}
def sNext:DS:=λDe M=>De.nx M
def sSeq (T U:DS):DS:=λDe M=>T {De with nx:=U De} M
theorem sS_next:SimS K tNext sNext:=λF0 H0 F H O M De E e l w=>l.nx F H O M e w
theorem sS_seq (h:SimS K t T)(g:SimS K u U): SimS K (tSeq t u) (sSeq T U):=λF0 H0 F H O M De E e l w=>
 h F0 H0 F H O M {De with nx:=U De} _ e ⟨λF1 H1 O1 M1 e1 w1=>g F0 H0 F1 H1 O1 M1 De E e1 l w1,l.bk,l.ct,l.rt⟩ w
def sRet (E:DO):DS:=λDe M=>E M De.rt
theorem sS_ret (h:SimO K te Eo): SimS K (tRet te) (sRet Eo):=λF0 H0 F H O M De En e l w=>h F0 H0 F H O M _ _ e w λr v F' H' p x n=>l.rt F' H' r v (e.ext.trans x) (n.old e.ext.hh) p
def sRetV (i:Nat):DS:=λDe M=>match M[i]? with
 |some (some (.own t))=>De.rt t
 |_=>False
theorem sS_retV:SimS K (tRet (tVar i)) (sRetV i):=λF0 H0 F H O M De En ⟨A,e⟩ l w=>by
 unfold sRetV at w
 split at w
 .rename_i t ht
  obtain⟨v,h1,h2⟩:=e.own i t ht
  exact⟨v,h1,l.rt F H t v e.ext ⟨A i,h2,e.nod i,λa ha=>⟨(e.new i a ha).2.1,(e.new i a ha).1⟩⟩ w⟩
 .exact w.elim
def sIf (C:DT)(T U:DS):DS:=λDe M=>C M λb=>if b=true then T De M else U De M
theorem sS_if (h:SimT K c C)(ht:SimS K t T)(hu:SimS K u U): SimS K (tIfS c t u) (sIf C T U):=λF0 H0 F H O M De En e l w=>h F0 H0 F H O M _ _ e w λb F' H' p x=>by
 cases b with
 |true=>exact iteT (ht F0 H0 F' H' O M De En (e.on x) l p)
 |false=>exact iteB rfl (hu F0 H0 F' H' O M De En (e.on x) l p)
def sSet (i:Nat)(E:DO):DS:=λDe M=>E M λr=>De.nx (M.set i (some (.own r)))
theorem sS_set (h:SimO K te Eo): SimS K (tAsg te (gName i)) (sSet i Eo):=λF0 H0 F H O M De En e l w=>h F0 H0 F H O M _ _ e w λr v F' H' p x n=>l.nx F' H' _ _ (e.put x i n) p
def sAug (i:Nat)(r:DR2)(E:DE):DS:=λDe M=>dV i M λx=>E M λy=>r x y λz=>De.nx (M.set i (some (.own (.fz z))))
theorem sS_aug (ho:OpS K R r)(h:SimB K te E): SimS K (tAug i te R) (sAug i r E):=λF0 H0 F H O M De En e l w=>by
 obtain⟨v,hv,w⟩:=sF_var F0 H0 F H O M _ (λv H'=>te O H' λy H1=>R v y H1 λz H2=>En.nx (O.set i (some z)) H2) e w λd v F1 H1 p x1 r1=>h F0 H0 F1 H1 O M _ _ (e.on x1) p λy u F2 H2 p2 x2 r2=>ho F2 H2 d y v u _ _ x2.fh (r1.mono (x1.fh.trans x2.hh |> λs=>s)) r2 p2 λz w F3 H3 p3 x3 r3=>l.nx F3 H3 _ _ (((e.on x1).on x2).put x3 i (.fz r3)) p3
 exact⟨v,hv,w⟩
def gN (i:Nat):D->Dst->(Dst->Prop)->Prop:=λd M P=>P (M.set i (some (.own (.fz d))))
theorem sG_name:SimG K (gName i) (gN i):=λF0 H0 F H O M A d v P Q e r w q=>q _ _ _ w (e.putFz i r) λj a ha=>by
 split at ha
 .cases ha
 .exact ha
def gsNil:List D->Dst->(Dst->Prop)->Prop:=λds M P=>match ds with
 | []=>P M
 |_=>False
def gsCons (G:D->Dst->(Dst->Prop)->Prop)(Gs:List D->Dst->(Dst->Prop)->Prop):List D->Dst->(Dst->Prop)->Prop:=λds M P=>match ds with
 |d::r=>G d M λM'=>Gs r M' P
 |_=>False
theorem sGs_nil:SimGs K gNil gsNil:=λF0 H0 F H O M A ds vs P Q e r w q=>by
 unfold gsNil at w
 split at w
 .exact ⟨r,q _ _ A w e λ_ _ z=>z⟩
 .exact w.elim
theorem sGs_cons {G:D->Dst->(Dst->Prop)->Prop}{Gs:List D->Dst->(Dst->Prop)->Prop}(h:SimG K g G)(hs:SimGs K gs Gs): SimGs K (gCons g gs) (gsCons G Gs):=λF0 H0 F H O M A ds vs P Q e r w q=>by
 unfold gsCons at w
 split at w
 .obtain ⟨v,r',rfl,h1,h2⟩:=r
  exact⟨v,r',rfl,h F0 H0 F H O M A _ v _ _ e h1 w λO' M' A' w' e' sb=>hs F0 H0 F H O' M' A' _ r' P Q e' h2 w' λO2 M2 A2 w2 e2 sb2=>q O2 M2 A2 w2 e2 λi a z=>sb i a (sb2 i a z)⟩
 .exact w.elim
def gT (n:Nat)(Gs:List D->Dst->(Dst->Prop)->Prop):D->Dst->(Dst->Prop)->Prop:=λd M P=>match d with
 | .tup ds=>ds.length=n/\Gs ds M P
 |_=>False
theorem sG_tup {Gs:List D->Dst->(Dst->Prop)->Prop}(hs:SimGs K gs Gs): SimG K (gTup K n gs) (gT n Gs):=λF0 H0 F H O M A d v P Q e r w q=>by
 unfold gT at w
 split at w
 .obtain ⟨a,vs,rfl,h1,h2⟩:=r
  exact⟨a,vs,rfl,e.ext.fh.seqT h1,by rw[<- h2.length];exact w.1,hs F0 H0 F H O M A _ vs P Q e h2 w.2 q⟩
 .exact w.elim
def sAsg (E:DE)(G:D->Dst->(Dst->Prop)->Prop):DS:=λDe M=>E M λd=>G d M De.nx
theorem sS_asg {G:D->Dst->(Dst->Prop)->Prop}(h:SimF K te E)(hg:SimG K g G): SimS K (tAsg te g) (sAsg E G):=λF0 H0 F H O M De En e l w=>h F0 H0 F H O M _ _ e w λd v F' H' p x r=>
 let⟨A,e⟩:=e
 hg F0 H0 F' H' O M A d v _ _ (e.on x) r p λO' M' A' w' e' _=>l.nx F' H' O' M' ⟨A',e'⟩ w'
theorem ER.change {A:Nat->List Addr}(e:ER K F0 H0 F H O M A)(i:Nat)(hv:O[i]?=some (some v))(hr:RepO K F H' t' v B)(hB:B.Nodup)
  (hBn:∀b∈B,F b=none/\H0 b=none) (dj:∀j,j≠i->∀b∈B,b∉A j) (keep:∀b o,b∉A i->H b=some o->H' b=some o): EnvR K F0 H0 F H' O (M.set i (some (.own t'))):=by
 have hi:i<M.length:=by rw[<- e.len];exact (List.getElem?_eq_some_iff.mp hv).1
 refine⟨λj=>if j=i then B else A j,by simp[e.len],⟨e.ext.ff,λb o h=>?_,λb o h=>?_,e.ext.no⟩,λj t hj=>?_,λj d hj=>?_,λj=>?_,λj k a hjk h1 h2=>?_,λj a ha=>?_⟩
 .exact keep b o (λz=>by rw[(e.new i b z).2.1]at h;cases h) (e.ext.hh _ _ h)
 .exact keep b o (λz=>by rw[(e.new i b z).1]at h;cases h) (e.ext.fh _ _ h)
 .by_cases z:j=i
  .subst z
   rw[if_pos rfl]
   rw[getElem?_set_self hi]at hj
   cases hj
   exact⟨v,hv,hr⟩
  .rw [if_neg z]
   rw[getElem?_set_ne (Ne.symm z)]at hj
   obtain⟨u,h1,h2⟩:=e.own j t hj
   exact⟨u,h1,h2.frame (Same.refl _) λa ha xs h=>keep a _ (e.dis j i a z ha) h⟩
 .by_cases z:j=i
  .subst z
   rw[getElem?_set_self hi]at hj
   cases hj
  .rw [getElem?_set_ne (Ne.symm z)]at hj
   exact e.bw j d hj
 .split
  .exact hB
  .exact e.nod j
 .split at h1
  .split at h2
   .lia
   .rename_i z1 z2
    exact dj k z2 a h1 h2
  .split at h2
   .rename_i z1 z2
    exact dj j z1 a h2 h1
   .exact e.dis j k a hjk h1 h2
 .split at ha
  .exact ⟨(hBn a ha).1,(hBn a ha).2,hr.isl a ha⟩
  .rename_i z
   obtain⟨h1,h2,xs,h3,himm⟩:=e.new j a ha
   exact⟨h1,h2,xs,keep a _ (e.dis j i a z ha) h3,himm⟩
def sApp (i:Nat)(E:DO):DS:=λDe M=>match M[i]? with
 |some (some (.own (.nl ts)))=>ts.length<1000000/\E M λr=>De.nx (M.set i (some (.own (.nl (ts++[r])))))
 |_=>False
theorem upd_off (h:b≠a)(e:H b=some o'): upd H a o b=some o':=by rw[upd_ne h];exact e
theorem sS_app (h:SimO K te Eo): SimS K (tDrop (tBM K "list" rAppend (tVar i) (tCons te tNil))) (sApp i Eo):=λF0 H0 F H O M De En e l w=>by
 obtain⟨A,e⟩:=e
 unfold sApp at w
 split at w
 .rename_i ts hs
  obtain⟨pl,w⟩:=w
  obtain⟨v,hv,a,vs,B,rfl,eA,ha,hB⟩:=e.own i _ hs
  refine⟨_,hv,.inl ⟨rfl,_,SqL.of ha⟩,?_⟩
  refine h F0 H0 F H O M _ _ ⟨A,e⟩ w λr u F1 H1 p x1 n=>?_
  obtain⟨C,c1,c2,c3⟩:=n
  have e1:=e.on x1
  have hl:=hB.length
  refine⟨a,vs,u,rfl,rfl,x1.hh _ _ ha,sz_lt (by lia),?_⟩
  have hB1:RepOs K F1 H1 ts vs B:=hB.frame x1.ff λb _ xs z=>x1.hh _ _ z
  have hnd:=e.nod i
  rw[eA]at hnd
  obtain⟨n1,n2⟩:=nodup_cons.mp hnd
  have hCA:∀j b,b∈C->b∉A j:=λj b hb z=>by
   obtain⟨_,_,xs,q,_⟩:=e.new j b z
   rw[(c3 b hb).1]at q;cases q
  have haC:a∉C:=λz=>hCA i a z (by rw[eA];exact mem_cons_self)
  refine l.nx F1 _ O _ (e1.change i hv (t':=.nl (ts++[r])) (B:=a::(B++C)) ⟨a,vs++[u],B++C,rfl,rfl,upd_same,?_⟩ ?_ ?_ ?_ ?_) p
  .exact RepOs.append (hB1.frame (Same.refl _) λb hb xs z=>upd_off (λq=>n1 (by rw[<- q];exact hb)) z) (RepOs.one (c1.frame (Same.refl _) λb hb xs z=>upd_off (λq=>haC (by rw[<- q];exact hb)) z))
  .refine nodup_cons.mpr ⟨λz=>?_,nodup_append.mpr ⟨n2,c2,λx hx y hy z=>?_⟩⟩
   .rcases mem_append.mp z with z |z
    .exact n1 z
    .exact haC z
   .subst z
    exact hCA i x hy (by rw[eA];exact mem_cons_of_mem _ hx)
  .intro b hb
   have hb':b∈A i∨b∈C:=by
    rw[eA]
    rcases mem_cons.mp hb with z |z
    .exact .inl (by rw[z];exact mem_cons_self)
    .rcases mem_append.mp z with z |z
     .exact .inl (mem_cons_of_mem _ z)
     .exact .inr z
   rcases hb' with z |z
   .exact ⟨(e1.new i b z).1,(e1.new i b z).2.1⟩
   .exact ⟨(c3 b z).2,e.ext.hh.free (c3 b z).1⟩
  .intro j hj b hb z
   rcases mem_cons.mp hb with q |q
   .subst q;exact e.dis j i b hj z (by rw[eA];exact mem_cons_self)
   .rcases mem_append.mp q with q |q
    .exact e.dis j i b hj z (by rw[eA];exact mem_cons_of_mem _ q)
    .exact hCA j b q z
  .intro b o hb q
   exact upd_off (λz=>hb (by rw[eA,z];exact mem_cons_self)) q
 .exact w.elim
def sPut (i:Nat)(Ei:DE)(E:DO):DS:=λDe M=>E M λr=>match M[i]? with
 |some (some (.own (.nl ts)))=>Ei M λk=>match k with
  | .int k=>∃j,ixN ts.length k=some j/\De.nx (M.set i (some (.own (.nl (ts.set j r)))))
  |_=>False
 |_=>False
theorem sS_put (h:SimO K te Eo)(hi:SimB K ti Ei): SimS K (tAsg te (gSub (tVar i) ti rSetL)) (sPut i Ei Eo):=λF0 H0 F H O M De En e l w=>by
 refine h F0 H0 F H O M _ _ e w λr u F1 H1 p x1 n=>?_
 obtain⟨A,e⟩:=e
 split at p
 .rename_i ts hs
  have e1:=e.on x1
  obtain⟨v,hv,a,vs,B,rfl,eA,ha,hB⟩:=e1.own i _ hs
  refine⟨_,hv,?_⟩
  refine hi F0 H0 F1 H1 O M _ _ ⟨A,e1⟩ p λk kv F2 H2 p2 x2 r2=>?_
  split at p2
  .rename_i k
   obtain⟨j,hj,p2⟩:=p2
   have e2:=e1.on x2
   have ha2:=x2.hh _ _ ha
   have hB2:RepOs K F2 H2 ts vs B:=hB.frame x2.ff λb _ xs z=>x2.hh _ _ z
   obtain⟨C,c1,c2,c3⟩:=n
   have c1':RepO K F2 H2 r u C:=c1.frame x2.ff λb _ xs z=>x2.hh _ _ z
   have hl:=hB.length
   refine⟨a,vs,k,j,rfl,r2,ha2,by rw[<- hl];exact hj,?_⟩
   have hjl:j<ts.length:=by
    unfold ixN at hj
    split at hj
    .split at hj
     .cases hj;lia
     .cases hj
    .split at hj
     .cases hj;lia
     .cases hj
   obtain⟨v0,A1,B0,A2,f1,rfl,f3,f4⟩:=hB2.focus (getElem?_eq_getElem hjl)
   have hnd:=e.nod i
   rw[eA]at hnd
   obtain⟨n1,n2⟩:=nodup_cons.mp hnd
   have hCA:∀j b,b∈C->b∉A j:=λj b hb z=>by
    obtain⟨_,_,xs,q,_⟩:=e.new j b z
    rw[(c3 b hb).1]at q;cases q
   have haC:a∉C:=λz=>hCA i a z (by rw[eA];exact mem_cons_self)
   have sub:∀b,b∈A1++A2->b∈A1++(B0++A2):=λb hb=>by
    rcases mem_append.mp hb with z |z<;>simp[z]
   have ina:∀b,b∈a::(A1++(C++A2))->b∈A i∨b∈C:=λb hb=>by
    rw[eA]
    rcases mem_cons.mp hb with z |z
    .exact .inl (by rw[z];exact mem_cons_self)
    .rcases mem_append.mp z with z |z
     .exact .inl (by simp[z])
     .rcases mem_append.mp z with z |z
      .exact .inr z
      .exact .inl (by simp[z])
   refine l.nx F2 _ O _ (e2.change i hv (t':=.nl (ts.set j r)) (B:=a::(A1++(C++A2))) ⟨a,vs.set j u,_,rfl,rfl,upd_same,f4 F2 _ r u C (Same.refl _) (λb hb xs z=>?_) (c1'.frame (Same.refl _) λb hb xs z=>upd_off (λq=>haC (by rw[<- q];exact hb)) z)⟩ ?_ ?_ ?_ ?_) p2
   .exact upd_off (λq=>n1 (by rw[<- q];exact sub b hb)) z
   .obtain ⟨m1,m2,m3⟩:=nodup_append.mp n2
    obtain⟨k1,k2,k3⟩:=nodup_append.mp m2
    refine nodup_cons.mpr ⟨λz=>?_,nodup_append.mpr ⟨m1,nodup_append.mpr ⟨c2,k2,λx hx y hy z=>?_⟩,λx hx y hy z=>?_⟩⟩
    .rcases mem_append.mp z with z |z
     .exact n1 (by simp[z])
     .rcases mem_append.mp z with z |z
      .exact haC z
      .exact n1 (by simp[z])
    .subst z
     exact hCA i x hx (by rw[eA];simp[hy])
    .rcases mem_append.mp hy with q |q
     .subst z
      exact hCA i x q (by rw[eA];simp[hx])
     .exact m3 x hx y (by simp[q]) z
   .intro b hb
    rcases ina b hb with z |z
    .exact ⟨(e2.new i b z).1,(e2.new i b z).2.1⟩
    .obtain ⟨xs,q,himm⟩:=c1.isl b z
     exact⟨x2.no b _ (c3 b z).2 q himm,e.ext.hh.free (c3 b z).1⟩
   .intro j' hj' b hb z
    rcases ina b hb with q |q
    .exact e.dis j' i b hj' z q
    .exact hCA j' b q z
   .intro b o hb q
    exact upd_off (λz=>hb (by rw[eA,z];exact mem_cons_self)) q
  .exact p2.elim
 .exact p.elim
end
section
variable {K:Frag}{te ti ta tl:TE}{E Ea Ei El:DE}{Eo:DO}{t u:TS}{T U:DS}{a:TA}{As:DA}
theorem ER.rebase {A:Nat->List Addr}(e:ER K F0 H0 F H O M A): ER K F H0 F H O M A:=⟨e.len,⟨Same.refl _,e.ext.hh,e.ext.fh,λ_ _ z _ _=>z⟩,e.own,e.bw,e.nod,e.dis,e.new⟩
theorem EnvR.rebase (e:EnvR K F0 H0 F H O M): EnvR K F H0 F H O M:=let⟨A,e⟩:=e;⟨A,e.rebase⟩
theorem Ext.unbase (x:Ext F0 H0 F1 H1)(y:Ext F1 H0 F H): Ext F0 H0 F H:=⟨x.ff.trans y.ff,y.hh,y.fh,λa o z1 z2 z3=>y.no a o (x.no a o z1 z2 z3) z2 z3⟩
theorem EnvR.unbase (x:Ext F0 H0 F1 H1)(e:EnvR K F1 H0 F H O M): EnvR K F0 H0 F H O M:=let⟨A,e⟩:=e;⟨A,e.len,x.unbase e.ext,e.own,e.bw,e.nod,e.dis,e.new⟩
def sWhile (C:DT)(T:DS):DS:=λDe M=>∃W:Nat->Dst->Prop,(∃m,W m M)/\∀m M,W m M->C M λb=>if b=true then T {nx:=λM'=>∃m',m'<m/\W m' M',ct:=λM'=>∃m',m'<m/\W m' M',bk:=De.nx,rt:=De.rt} M else De.nx M
theorem sS_while (h:SimT K c C)(ht:SimS K t T): SimS K (tWhile c t) (sWhile C T):=λF0 H0 F H O M De En e l w=>by
 obtain⟨W,⟨m0,w0⟩,hW⟩:=w
 refine⟨λm O H=>∃F M,EnvR K F0 H0 F H O M/\W m M,⟨m0,F,M,e,w0⟩,?_⟩
 rintro m O1 H1 ⟨F1,M1,e1,w1⟩
 refine h F0 H0 F1 H1 O1 M1 _ _ e1 (hW m M1 w1) λb F2 H2 p x=>?_
 cases b with
 |true=>
  refine iteT ⟨λO' H'=>∃m',m'<m/\∃F M,EnvR K F0 H0 F H' O' M/\W m' M,λO' H' z=>z,?_⟩
  refine ht F0 H0 F2 H2 O1 M1 {nx:=λM'=>∃m',m'<m/\W m' M',ct:=λM'=>∃m',m'<m/\W m' M',bk:=De.nx,rt:=De.rt} _ (e1.on x) ⟨λF3 H3 O3 M3 e3 ⟨m',hm,w3⟩=>⟨m',hm,F3,M3,e3,w3⟩,l.nx,λF3 H3 O3 M3 e3 ⟨m',hm,w3⟩=>⟨m',hm,F3,M3,e3,w3⟩,l.rt⟩ p
 |false=>exact iteB rfl (l.nx F2 H2 O1 M1 (e1.on x) p)
def ItR (K:Frag)(F:Hp)(J:It)(ds:List D):Prop:=∀F1 H1,Same F F1->Same F1 H1->(∀i,i<ds.length->J.go i H1)/\J.stop ds.length H1/\∀i x H2,i<ds.length->J.yld i H1 x H2->∃d F2,ds[i]?=some d/\Ext F1 H1 F2 H2/\Rep K F2 d x
def SimI (K:Frag)(wi:TI)(I:DA):Prop:=∀F0 H0 F H O M P R,EnvR K F0 H0 F H O M->I M P->(∀ds J F' H',P ds->Ext F H F' H'->ItR K F' J ds->R J H')->wi O H R
def ForW (G:D->Dst->(Dst->Prop)->Prop)(T:DS)(De:DEnds)(ds:List D)(M:Dst):Prop:=∃W:Nat->Dst->Prop,W 0 M/\
 (∀i d M,ds[i]?=some d->W i M->G d M λM'=>T {nx:=W (i+1),ct:=W (i+1),bk:=De.nx,rt:=De.rt} M')/\∀M,W ds.length M->De.nx M
def sFor (I:DA)(G:D->Dst->(Dst->Prop)->Prop)(T:DS):DS:=λDe M=>I M λds=>ForW G T De ds M
theorem sS_for {G:D->Dst->(Dst->Prop)->Prop}(hi:SimI K wi I)(hg:SimG K g G)(ht:SimS K t T): SimS K (tFor wi g t) (sFor I G T):=λF0 H0 F H O M De En e l w=>
 hi F0 H0 F H O M _ _ e w λds J F1 H1 p x1 hJ=>by
  have b1:=(e.on x1).ext
  obtain⟨W,w0,ws,wd⟩:=p
  refine⟨λi m O H=>m=ds.length-i/\i<=ds.length/\∃F M,EnvR K F1 H0 F H O M/\W i M,⟨ds.length,rfl,zero_le _,F1,M,(e.on x1).rebase,w0⟩,?_⟩
  rintro i m O2 H2 ⟨rfl,hil,F2,M2,⟨A2,e2⟩,w2⟩
  obtain⟨j1,j2,j3⟩:=hJ F2 H2 e2.ext.ff e2.ext.fh
  by_cases hlt:i<ds.length
  .refine .inr ⟨j1 i hlt,λO' H'=>∃F M,EnvR K F1 H0 F H' O' M/\W (i+1) M,λO' H' ⟨F3,M3,e3,w3⟩=>⟨ds.length-(i+1),by omega,rfl,hlt,F3,M3,e3,w3⟩,λx H3 y=>?_⟩
   obtain⟨d,F3,hd,x3,r3⟩:=j3 i x H3 hlt y
   refine hg F1 H0 F3 H3 O2 M2 A2 d x _ _ (e2.on x3) r3 (ws i d M2 hd w2) λO4 M4 A4 w4 e4 _=>?_
   exact ht F1 H0 F3 H3 O4 M4 {nx:=W (i+1),ct:=W (i+1),bk:=De.nx,rt:=De.rt} _ ⟨A4,e4⟩ ⟨λF5 H5 O5 M5 e5 w5=>⟨F5,M5,e5,w5⟩,λF5 H5 O5 M5 e5 w5=>l.nx F5 H5 O5 M5 (e5.unbase b1) w5,λF5 H5 O5 M5 e5 w5=>⟨F5,M5,e5,w5⟩,λF5 H5 r v x5 n5 w5=>l.rt F5 H5 r v (b1.unbase x5) n5 w5⟩ w4
  .have hi':i=ds.length:=by lia
   subst hi'
   exact .inl ⟨j2,l.nx F2 H2 O2 M2 (EnvR.unbase b1 ⟨A2,e2⟩) (wd _ w2)⟩
def dItL (El:DE):DA:=λM P=>El M λd=>match d with
 | .lst ds=>P ds
 |_=>False
def dItT (El:DE):DA:=λM P=>El M λd=>match d with
 | .tup ds=>P ds
 |_=>False
theorem sI_list (h:SimF K tl El): SimI K (iList K tl) (dItL El):=λF0 H0 F H O M P R e w q=>h F0 H0 F H O M _ _ e w λd v F' H' p x r=>by
 split at p
 .obtain ⟨a,vs,rfl,h1,h2⟩:=r
  refine⟨a,rfl,⟨vs,x.fh.seq h1⟩,q _ _ F' H' p x λF1 H1 s1 s2=>?_⟩
  have hl:=h2.length
  have hq:=(s1.trans s2).seq h1
  refine⟨λi hi=>⟨vs,vs[i],hq,getElem?_eq_getElem (by lia)⟩,⟨vs,hq,by lia⟩,λi x H2 hi y=>?_⟩
  obtain⟨rfl,y⟩:=y
  obtain⟨d,hd,rd⟩:=h2.get' (y vs hq)
  exact⟨d,F1,hd,Ext.refl s2,rd.mono s1⟩
 .exact p.elim
theorem sI_tup (h:SimF K tl El): SimI K (iTup K tl) (dItT El):=λF0 H0 F H O M P R e w q=>h F0 H0 F H O M _ _ e w λd v F' H' p x r=>by
 split at p
 .obtain ⟨a,vs,rfl,h1,h2⟩:=r
  refine⟨a,rfl,⟨vs,x.fh.seqT h1⟩,q _ _ F' H' p x λF1 H1 s1 s2=>?_⟩
  have hl:=h2.length
  have hq:=(s1.trans s2).seqT h1
  refine⟨λi hi=>⟨vs,vs[i],hq,getElem?_eq_getElem (by lia)⟩,⟨vs,hq,by lia⟩,λi x H2 hi y=>?_⟩
  obtain⟨rfl,y⟩:=y
  obtain⟨d,hd,rd⟩:=h2.get' (y vs hq)
  exact⟨d,F1,hd,Ext.refl s2,rd.mono s1⟩
 .exact p.elim
def rng (lo c:Int)(n:Nat):List D:=(List.range n).map λ(i:Nat)=>D.int (lo+i*c)
theorem rng_len {lo c:Int}{n:Nat}:(rng lo c n).length=n:=by simp[rng]
theorem rng_get {lo c:Int}{n i:Nat}(h:i<n):(rng lo c n)[i]?=some (.int (lo+i*c)):=by simp[rng,h]
theorem rng_inv {lo c:Int}{n i:Nat}{d:D}(h:(rng lo c n)[i]?=some d):i<n/\d = .int (lo+i*c):=by
 have hi:i<n:=by
  have:=(List.getElem?_eq_some_iff.mp h).1
  rwa[rng_len]at this
 rw[rng_get hi]at h
 exact⟨hi,(Option.some.inj h).symm⟩
theorem itR_itr {F:Hp}{lo:Int}{n:Nat}:ItR K F (Itr lo n) (rng lo 1 n):=λF1 H1 s1 s2=>by
 rw[rng_len]
 refine⟨λi hi=>hi,Nat.le_refl _,λi x H2 hi y=>?_⟩
 obtain⟨rfl,rfl⟩:=y
 exact⟨_,F1,rng_get hi,Ext.refl s2,by rw[mul_one];rfl⟩
theorem itR_itrs {F:Hp}{lo c:Int}{n:Nat}:ItR K F (Itrs lo c n) (rng lo c n):=λF1 H1 s1 s2=>by
 rw[rng_len]
 refine⟨λi hi=>hi,Nat.le_refl _,λi x H2 hi y=>?_⟩
 obtain⟨rfl,rfl⟩:=y
 exact⟨_,F1,rng_get hi,Ext.refl s2,rfl⟩
def dRng1 (As:DA):DA:=λM P=>As M λds=>match ds with
 | [.int j]=>(-(2^62)<=j/\j<2^62)/\P (rng 0 1 j.toNat)
 |_=>False
def dRng3 (As:DA):DA:=λM P=>As M λds=>match ds with
 | [.int i,.int j,.int c]=>(-(2^61)<=i/\i<2^61/\-(2^61)<=j/\j<2^61/\0<c/\c<2^29)/\P (rng i c (rngN i j c))
 |_=>False
theorem reps3 (h:Reps K F [d,d',d''] vs): ∃v u w,vs=[v,u,w]/\Rep K F d v/\Rep K F d' u/\Rep K F d'' w:=by
 obtain⟨v,r,rfl,h1,h2⟩:=h
 obtain⟨u,w,rfl,h3,h4⟩:=reps2 h2
 exact⟨v,u,w,rfl,h1,h3,h4⟩
theorem sI_rng1 (h:SimAB K a As): SimI K (iRng1 a) (dRng1 As):=λF0 H0 F H O M P R e w q=>h F0 H0 F H O M _ _ e w λds vs F' H' p x r=>by
 split at p
 .obtain ⟨v,rfl,r1⟩:=reps1 r
  exact⟨_,by rw[show v=_ from r1],p.1.1,p.1.2,q _ _ F' H' p.2 x itR_itr⟩
 .exact p.elim
theorem sI_rng3 (h:SimAB K a As): SimI K (iRng3 a) (dRng3 As):=λF0 H0 F H O M P R e w q=>h F0 H0 F H O M _ _ e w λds vs F' H' p x r=>by
 split at p
 .obtain ⟨v,u,z,rfl,r1,r2,r3⟩:=reps3 r
  exact⟨_,_,_,by rw[show v=_ from r1,show u=_ from r2,show z=_ from r3],p.1,q _ _ F' H' p.2 x itR_itrs⟩
 .exact p.elim
def dRev (As:DA):DA:=λM P=>As M λds=>match ds with
 | [.tup xs]=>P xs.reverse
 |_=>False
theorem sI_rev (h:SimAF K a As):SimI K (iRev K a) (dRev As):=λF0 H0 F H O M P R e w q=>h F0 H0 F H O M _ _ e w λds vs F' H' p x r=>by
 split at p
 .obtain ⟨v,rfl,a,us,rfl,h1,h2⟩:=reps1 r
  have hl:=h2.length
  refine⟨a,us,rfl,x.fh.seqT h1,q _ _ F' H' p x λF1 H1 s1 s2=>?_⟩
  have hq:=(s1.trans s2).seqT h1
  rw[length_reverse]
  refine⟨λi hi=>⟨us,us[us.length-1-i]'(by omega),hq,rfl,by lia,getElem?_eq_getElem (by omega)⟩,by show us.length<=_;lia,λi x H2 hi y=>?_⟩
  obtain⟨rfl,y⟩:=y
  obtain⟨d,hd,rd⟩:=h2.get' (y us hq)
  refine⟨d,F1,?_,Ext.refl s2,rd.mono s1⟩
  rw[getElem?_reverse hi,hl];exact hd
 .exact p.elim
def blkD (ix:List (Option Nat))(M:Dst):Dst:=ix.map λo=>match o with
 |none=>none
 |some i=>match M[i]? with
  |some (some (.own (.fz d)))=>some (.own (.fz d))
  |some (some (.own (.fx _ d)))=>some (.own (.fz d))
  |some (some (.own t))=>some (.bw t.val)
  |some (some (.bw d))=>some (.bw d)
  |_=>none
def CmpW (G:D->Dst->(Dst->Prop)->Prop)(Eo:DO)(ds:List D)(M:Dst)(P:OV->Prop):Prop:=∃W:Nat->Dst->List OV->Prop,W 0 M []/\
 (∀i d M ts,ds[i]?=some d->W i M ts->ts.length<1000000/\G d M λM'=>Eo M' λr=>W (i+1) M' (ts++[r]))/\∀M ts,W ds.length M ts->P (.nl ts)
def dComp (I:DA)(ix:List (Option Nat))(G:D->Dst->(Dst->Prop)->Prop)(Eo:DO):DO:=λM P=>I M λds=>CmpW G Eo ds (blkD ix M) P
theorem ER.blk {A:Nat->List Addr}(e:ER K F0 H0 F H O M A)(ix:List (Option Nat))(s:Same H H'): ER K F H F H' (blkσ ix O) (blkD ix M) (λ_=>[]):=by
 have get:∀(j:Nat) (s:Sl),(blkD ix M)[j]?=some (some s)->∃(i:Nat) (v:V),(blkσ ix O)[j]?=some (some v)/\O[i]?=some (some v)/\((∃d,s = .own (.fz d)/\Rep K F d v)∨∃d,s = .bw d/\Rep K H d v):=by
  intro j s hj
  unfold blkD at hj
  rw[getElem?_map]at hj
  cases q:ix[j]? with
  |none=>rw[q]at hj;cases hj
  |some o=>
   rw[q]at hj
   cases o with
   |none=>cases hj
   |some i=>
    have fin:∀v,O[i]?=some (some v)->(blkσ ix O)[j]?=some (some v):=λv hv=>by
     unfold blkσ
     rw[getElem?_map,q]
     simp[hv]
    have hj':=Option.some.inj hj
    dsimp only at hj'
    split at hj'
    .rename_i d hd
     cases hj'
     obtain⟨v,h1,h2⟩:=e.own i _ hd
     exact⟨i,v,fin v h1,h1,.inl ⟨d,rfl,h2.2⟩⟩
    .rename_i u d hd
     cases hj'
     obtain⟨v,h1,h2⟩:=e.own i _ hd
     exact⟨i,v,fin v h1,h1,.inl ⟨d,rfl,h2.2.2⟩⟩
    .rename_i t _ _ hd
     cases hj'
     obtain⟨v,h1,h2⟩:=e.own i _ hd
     exact⟨i,v,fin v h1,h1,.inr ⟨_,rfl,h2.rep e.ext.fh λa _ xs z=>z⟩⟩
    .rename_i d hd
     cases hj'
     obtain⟨v,h1,h2⟩:=e.bw i _ hd
     exact⟨i,v,fin v h1,h1,.inr ⟨_,rfl,h2.mono e.ext.hh⟩⟩
    .cases hj'
 refine⟨by simp[blkσ,blkD],Ext.grow e.ext.fh s,λj t hj=>?_,λj d hj=>?_,λ_=>nodup_nil,(λ_ _ _ _ h=>by cases h),(λ_ _ h=>by cases h)⟩
 .obtain ⟨i,v,h1,h2,h3⟩:=get j _ hj
  rcases h3 with⟨d,h3,h4⟩ | ⟨d,h3,_⟩
  .cases h3;exact⟨v,h1,rfl,h4⟩
  .cases h3
 .obtain ⟨i,v,h1,h2,h3⟩:=get j _ hj
  rcases h3 with⟨d',h3,h4⟩ | ⟨d',h3,h4⟩
  .cases h3
  .cases h3;exact⟨v,h1,h4⟩
theorem sO_comp {G:D->Dst->(Dst->Prop)->Prop}(hi:SimI K wi I)(hg:SimG K g G)(he:SimO K te Eo): SimO K (tComp wi ix g te) (dComp I ix G Eo):=λF0 H0 F H O M P Q e w q=>
 hi F0 H0 F H O M _ _ e w λds J F1 H1 p x1 hJ=>by
  intro L hL
  obtain⟨A,e⟩:=e.on x1
  obtain⟨W,w0,ws,wd⟩:=p
  have f1:Same F1 H1:=x1.fh
  refine⟨λi m O ys H=>m=ds.length-i/\i<=ds.length/\∃F M ts B,ER K F1 H1 F H O M (λ_=>[])/\W i M ts/\F L=none/\H L=some (.lst ys)/\RepOs K F H ts ys B/\(L::B).Nodup/\∀b∈B,H1 b=none/\F b=none,
   ⟨ds.length,rfl,zero_le _,F1,_,[],[],e.blk ix (Same.new hL),w0,f1.free hL,upd_same,⟨rfl,rfl⟩,by simp,λ_ h=>by cases h⟩,?_⟩
  rintro i m O2 ys H2 ⟨rfl,hil,F2,M2,ts,B,e2,w2,l1,l2,hr,nd,nw⟩
  obtain⟨j1,j2,j3⟩:=hJ F2 H2 e2.ext.ff e2.ext.fh
  by_cases hlt:i<ds.length
  .obtain ⟨d0,hd0⟩:∃d,ds[i]?=some d:=⟨_,getElem?_eq_getElem hlt⟩
   have hl:=hr.length
   refine .inr ⟨sz_lt (by have:=(ws i d0 M2 ts hd0 w2).1;lia),j1 i hlt,λx H3 y=>?_⟩
   obtain⟨d,F3,hd,x3,r3⟩:=j3 i x H3 hlt y
   refine hg F1 H1 F3 H3 O2 M2 (λ_=>[]) d x _ _ (e2.on x3) r3 (ws i d M2 ts hd w2).2 λO4 M4 A4 w4 e4 sub=>?_
   have e4':ER K F1 H1 F3 H3 O4 M4 (λ_=>[]):=by
    have:A4=λ_=>[]:=funext λk=>List.eq_nil_iff_forall_not_mem.mpr λb hb=>by cases sub k b hb
    rw[this]at e4;exact e4
   refine he F1 H1 F3 H3 O4 M4 _ _ ⟨_,e4'⟩ w4 λr v F5 H5 p5 x5 n5=>?_
   have x25:=x3.trans x5
   have l5:=x25.hh _ _ l2
   have l5f:=x25.no L _ l1 l2 rfl
   refine⟨l5,ds.length-(i+1),by lia,rfl,hlt,F5,M4,ts++[r],?_⟩
   obtain⟨C,c1,c2,c3⟩:=n5
   obtain⟨n1,n2⟩:=nodup_cons.mp nd
   have hLC:L∉C:=λz=>by
    have q:=(c3 L z).1
    rw[x3.hh _ _ l2]at q;cases q
   have hBC:∀b,b∈B->b∉C:=λb hb z=>by
    obtain⟨xs,q,himm⟩:=hr.isl b hb
    have:=(c3 b z).1
    rw[x3.hh _ _ q]at this;cases this
   have e5:=e4'.on x5
   refine⟨B++C,⟨e5.len,⟨e5.ext.ff,λb o h=>?_,λb o h=>?_,e5.ext.no⟩,λj t hj=>?_,e5.bw,e5.nod,e5.dis,λ_ _ h=>by cases h⟩,p5,l5f,upd_same,?_,?_,λb hb=>?_⟩
   .exact upd_off (λz=>by rw[z,hL]at h;cases h) (e5.ext.hh _ _ h)
   .exact upd_off (λz=>by rw[z,l5f]at h;cases h) (e5.ext.fh _ _ h)
   .obtain ⟨u,h1,h2⟩:=e5.own j t hj
    exact⟨u,h1,h2.frame (Same.refl _) λ_ z=>by cases z⟩
   .exact RepOs.append (hr.frame x25.ff λb hb xs z=>upd_off (λq=>n1 (by rw[<- q];exact hb)) (x25.hh _ _ z)) (RepOs.one (c1.frame (Same.refl _) λb hb xs z=>upd_off (λq=>hLC (by rw[<- q];exact hb)) z))
   .refine nodup_cons.mpr ⟨λz=>?_,nodup_append.mpr ⟨n2,c2,λx hx y hy z=>by subst z;exact hBC x hx hy⟩⟩
    rcases mem_append.mp z with z |z
    .exact n1 z
    .exact hLC z
   .rcases mem_append.mp hb with z |z
    .obtain ⟨xs,qq,himm⟩:=hr.isl b z
     exact⟨(nw b z).1,x25.no b _ (nw b z).2 qq himm⟩
    .exact ⟨(e2.ext.hh.trans x3.hh).free (c3 b z).1,(c3 b z).2⟩
  .have hi':i=ds.length:=by lia
   subst hi'
   refine .inl ⟨j2,q _ _ F2 H2 (wd _ _ w2) (x1.trans e2.ext) ⟨L::B,⟨L,ys,B,rfl,rfl,l2,hr⟩,nd,λb hb=>?_⟩⟩
   rcases mem_cons.mp hb with rfl |z
   .exact ⟨x1.hh.free hL,l1⟩
   .exact ⟨x1.hh.free (nw b z).1,(nw b z).2⟩
def startV (N:List Str)(ds:List D):Dst:=ds.map (λd=>some (.own (.fz d)))++List.replicate (N.length-ds.length) none
theorem startV_er (s:Same F H)(h:Reps K F ds vs): ER K F H F H (start N vs) (startV N ds) (λ_=>[]):=by
 have hl:=h.length
 refine⟨by simp[start,startV,hl],Ext.refl s,λi t hi=>?_,λi d hi=>?_,λ_=>nodup_nil,(λ_ _ _ _ h=>by cases h),(λ_ _ h=>by cases h)⟩
 .unfold startV at hi
  by_cases z:i<ds.length
  .rw [getElem?_append_left (by simpa using z),getElem?_map,getElem?_eq_getElem z]at hi
   simp at hi
   subst hi
   obtain⟨v,h1,h2⟩:=h.get (getElem?_eq_getElem z)
   refine⟨v,?_,rfl,h2⟩
   unfold start
   rw[getElem?_append_left (by simp;lia),getElem?_map,h1]
   rfl
  .rw [getElem?_append_right (by simpa using z)]at hi
   have:=mem_of_getElem? hi
   rw[mem_replicate]at this
   cases this.2
 .unfold startV at hi
  by_cases z:i<ds.length
  .rw [getElem?_append_left (by simpa using z),getElem?_map]at hi
   simp at hi
  .rw [getElem?_append_right (by simpa using z)]at hi
   have:=mem_of_getElem? hi
   rw[mem_replicate]at this
   cases this.2
end
theorem CalV.of {P:Program}{w:World}{K:Frag}{mg:Str->Option Value}{base:Heap}{x:Str}{st:Stmt}{f:Addr}{fd:FuncData}{N ps:List Str}{k n:Nat}{sp:DSp}(Df:DefAt K mg x st f fd)(S:FnScope N ps (defScope st))
  (hb:∀(kV doc pm:Value) (an:Option Addr) (cdv ct:Value) (us:List Value),us.length=ps.length->bindArgs (fnOf x x (defArgs st) (defBody st) (defScope st) .none kV doc pm an cdv ct) ⟨us,[]⟩=pure (ps.zip us)) (hn:n=ps.length)
  (hbody:∀(cdv:Value) (A:Around) (outer:List Env) (s:Shared) (H:Hp) (E:XK),Room k (A.deeper (envOfC x (defScope st) s.heap.objs.size f cdv))->
   ∃t T,PSs (cxOf CX0 P w K mg base N x (defScope st) f cdv A outer s H E).nox (defBody st) t/\SimS K t T/\∀ds Pr,sp ds Pr->T {nx:=λ_=>Pr (.fz .non),rt:=Pr} (startV N ds)):Cal P w K mg base x (k+1) ps (spV K n sp):=
 Cal.of Df S hb (λvs H Q E h=>by rw[<- hn];exact h.1) λcdv A outer s H vs Q E hr h=>by
  obtain⟨_,F,ds,Pr,hs,hr',hsp,hq⟩:=h
  obtain⟨t,T,h1,h2,h3⟩:=hbody cdv A outer s H E hr
  refine⟨t,h1,h2 F H F H (start N vs) (startV N ds) {nx:=λ_=>Pr (.fz .non),rt:=Pr} _ ⟨_,startV_er hs hr'⟩ ⟨λF' H' O M e p=>?_,λ_ _ _ _ _ z=>z.elim,λ_ _ _ _ _ z=>z.elim,λF' H' r v x n p=>hq r v F' H' p x n⟩ (h3 ds Pr hsp)⟩
  exact hq _ _ F' H' p e.ext (.fz rfl)
theorem law_ok {P:Program}{w:World}{K:Frag}{mg:Str->Option Value}{base:Heap}{st:Stmt}{f:Addr}{fd:FuncData}{N:List Str}{k:Nat}(Df:DefAt K mg "law" st f fd)(S:FnScope N ["_law_script"] (defScope st))
  (hbody:∀(cdv:Value) (A:Around) (outer:List Env) (s:Shared) (H:Hp) (E:XK),Room k (A.deeper (envOfC "law" (defScope st) s.heap.objs.size f cdv))->
   ∃t T,PSs (cxOf CX0 P w K mg base N "law" (defScope st) f cdv A outer s H E).nox (defBody st) t/\SimS K t T/\∀ns:List Int,ns.length<=63->T {nx:=λ_=>False,rt:=λr=>r = .fz (.bl true)} (startV N [.lst (ns.map .int)])):FnOk P w K mg base CX0 (k+1) f fd ["_law_script"] (spLaw K):=
 Df.fn.ok S (λvs H Q E h=>h.1) λcdv A outer s H vs Q E hr h=>by
  obtain⟨_,a,ns,rfl,hS,hlen,q⟩:=h
  obtain⟨t,T,h1,h2,h3⟩:=hbody cdv A outer s H E hr
  have hr':Reps K H [.lst (ns.map D.int)] [.ref a]:=⟨_,_,rfl,⟨a,_,rfl,hS,reps_ints.mpr rfl⟩,rfl⟩
  refine⟨t,h1,h2 H H H H (start N [.ref a]) (startV N [.lst (ns.map .int)]) {nx:=λ_=>False,rt:=λr=>r = .fz (.bl true)} _ ⟨_,startV_er (Same.refl H) hr'⟩ ⟨λF' H' O M e p=>p.elim,λ_ _ _ _ _ z=>z.elim,λ_ _ _ _ _ z=>z.elim,λF' H' r v x n p=>?_⟩ (h3 ns hlen)⟩
  subst p
  obtain⟨A,n1,_⟩:=n
  have:v = .bl true:=n1.2
  subst this
  exact q H'
section
variable {X:Cx}{K:Frag}
def D.tyN:D->String
 | .int _ => "int"
 | .bl _ => "bool"
 | .non => "NoneType"
 | .str _ => "str"
 | .ty _ => "type"
 | .fn _ => "function"
 | .tup _ => "tuple"
 | .lst _ => "list"
 | .dic => "dict"
 | .exc _ => "exception"
 | .obj _ _ _ => "object"
 | .clo _ _ _ _ => "function"
def rIsID (K:Frag):List V->Hp->VK->Prop:=λxs H Q=>∃d v n b,xs=[v,.ty n]/\Rep K H d v/\((∀m,d≠.ty m)/\(∀x,d≠.fn x)/\(∀x,d≠.exc x)/\(∀c ns ds,d≠.obj c ns ds)/\∀a b c e,d≠.clo a b c e)/\kitOne K (.type d.tyN) (.type n)=some b/\Q (.bl b) H
theorem call_isiD:CallR X (.builtin "isinstance") (rIsID X.K):=by
 intro pins s O H xs us Q I r h
 obtain⟨d,x,n,b,rfl,rp,⟨hty,hfn,hex,hany⟩,e,q⟩:=h
 obtain⟨u,w',rfl,r1,r2⟩:=vals2 r
 cases r2
 have fin:∀tk,EP X pins O Q (.bool b) {s with toks:=tk}:=λtk=>⟨.bl b,H,I.tok tk,rfl,q⟩
 cases d with
 |int i=>cases rp;exact isinst_ok I r1 (TyOf.int i) e fin
 |bl i=>cases rp;exact isinst_ok I r1 (TyOf.bl i) e fin
 |non=>cases rp;exact isinst_ok I r1 TyOf.non e fin
 |str i=>cases rp;exact isinst_ok I r1 (TyOf.str i) e fin
 |ty i=>exact absurd rfl (hty i)
 |fn i=>exact absurd rfl (hfn i)
 |tup ds=>
  obtain⟨a,vs,rfl,h1,h2⟩:=rp
  cases (show u=Value.ref a from r1)
  obtain⟨its,rv,p,hz⟩:=I.tuple h1
  obtain⟨o,q1,q2,_⟩:=p
  exact kia_one kitx_tuple I.kIn ⟨o,q1,q2⟩ e (λz=>nomatch z) fin
 |lst ds=>
  obtain⟨a,vs,rfl,h1,h2⟩:=rp
  cases (show u=Value.ref a from r1)
  obtain⟨its,rv,p,hz⟩:=I.list h1
  obtain⟨o,q1,q2,_⟩:=p.isList
  exact kia_one kitx_list I.kIn ⟨o,q1,q2⟩ e (λz=>nomatch z) fin
 |dic=>
  obtain⟨a,rfl,h1⟩:=rp
  cases (show u=Value.ref a from r1)
  obtain⟨⟨o,q1,q2⟩,_,_⟩:=I.hok a _ h1
  exact kia_one kitx_dict I.kIn ⟨o,q1,q2⟩ e (λz=>nomatch z) fin
 |exc c=>exact absurd rfl (hex c)
 |obj c ns ds=>exact absurd rfl (hany.1 c ns ds)
 |clo q1 q2 q3 q4=>exact absurd rfl (hany.2 q1 q2 q3 q4)
def kitB (d:D)(n:String):Bool:=match d with
 | .int _=>n == "int"
 | .bl _=>n == "bool" ||n == "int"
 | .str _=>n == "str"
 | .tup _=>n == "tuple"
 | .lst _=>n == "list"
 |_=>false
def kitNs:List String:=["int","bool","str","tuple","list"]
structure KitV (K:Frag):Prop where
 all:∀d:D,((∀m,d≠.ty m)/\(∀x,d≠.fn x)/\(∀x,d≠.exc x)/\(∀c ns ds,d≠.obj c ns ds)/\∀a b c e,d≠.clo a b c e)->∀n∈kitNs,kitOne K (.type d.tyN) (.type n)=some (kitB d n)
def isiD:List D->(D->Prop)->Prop:=λds P=>match ds with
 | [.ty _,.ty _]=>False
 | [.fn _,.ty _]=>False
 | [.exc _,.ty _]=>False
 | [.obj _ _ _,.ty _]=>False
 | [.clo _ _ _ _,.ty _]=>False
 | [d,.ty n]=>n∈kitNs/\P (.bl (kitB d n))
 |_=>False
theorem cS_isi (KT:KitV K): CbS K (rIsID K) isiD:=λF H ds vs P Q s rs w q=>by
 unfold isiD at w
 split at w
 .exact w.elim
 .exact w.elim
 .exact w.elim
 .exact w.elim
 .exact w.elim
 .rename_i d n h1 h0 h2 h3 h4
  obtain⟨v,u,rfl,r1,r2⟩:=reps2 rs
  have ht:∀m,d≠.ty m:=λm z=>h1 m z
  have hf:∀m,d≠.fn m:=λm z=>h0 m z
  have hx:∀m,d≠.exc m:=λm z=>h2 m z
  have hy:(∀c ns ds,d≠.obj c ns ds)/\∀a b c e,d≠.clo a b c e:=⟨λc ns ds z=>h3 c ns ds z,λa b c e z=>h4 a b c e z⟩
  exact⟨d,v,n,_,by rw[show u=_ from r2],r1,⟨ht,hf,hx,hy⟩,KT.all d ⟨ht,hf,hx,hy⟩ n w.1,q _ _ F H w.2 (Ext.refl s) rfl⟩
 .exact w.elim
theorem oS_ip {g:Int->Int->Int}: OpS K (ipI g) (rI2 λi j=>.int (g i j)):=λF H x y v u P Q s rx ry w q=>by
 obtain⟨i,j,rfl,rfl,p⟩:=rI2_inv w
 exact⟨i,j,rx,ry,q _ _ F H p (Ext.refl s) rfl⟩
theorem atI_c0 {α:Type}{a:α}{xs:List α}:atI (a::xs) 0=some a:=atI_nat rfl
theorem atI_c1 {α:Type}{a b:α}{xs:List α}:atI (a::b::xs) 1=some b:=atI_nat rfl
theorem atI_c2 {α:Type}{a b c:α}{xs:List α}:atI (a::b::c::xs) 2=some c:=atI_nat rfl
theorem atI_c3 {α:Type}{a b c d:α}{xs:List α}:atI (a::b::c::d::xs) 3=some d:=atI_nat rfl
theorem atI_c4 {α:Type}{a b c d e:α}{xs:List α}:atI (a::b::c::d::e::xs) 4=some e:=atI_nat rfl
theorem atI_ints {xs:List Int}{i:Int}(h0:0<=i)(h:i<xs.length):atI (xs.map D.int) i=some (.int (xs.getD i.toNat 0)):=by
 have hi:i.toNat<xs.length:=by lia
 have e:=atI_nat (xs:=xs.map D.int) (j:=i.toNat) (v:=.int (xs.getD i.toNat 0)) (by simp[hi])
 rwa[show ((i.toNat:Nat):Int)=i by lia]at e
theorem mulR {i j:Int}(h1 : -1000000<=j)(h2:j<=1000000):CMul i j:=.inr ⟨by lia,by lia⟩
theorem mget {α β:Type}{xs:List α}{f:α->β}{i:Nat}{d:β}(h:(xs.map f)[i]?=some d):∃x,xs[i]?=some x/\d=f x:=by
 rw[getElem?_map]at h
 cases q:xs[i]? with
 |none=>rw[q]at h;cases h
 |some x=>rw[q]at h;exact⟨x,rfl,(Option.some.inj h).symm⟩
theorem val_fzI {xs:List Int}:List.map OV.val (xs.map λx=>OV.fz (D.int x))=xs.map D.int:=by
 rw[map_map];rfl
theorem app_fzI:(xs.map λx=>OV.fz (D.int x))++[.fz (.int v)]=(xs++[v]).map λx=>OV.fz (D.int x):=by
 rw[map_append];rfl
theorem lfs_fzI {xs:List Int}:OV.lfs (xs.map λx=>OV.fz (D.int x))=true:=by
 rw[OV.lfs_eq];simp[OV.lf,D.lf]
theorem fz_int {xs:List Int}:(xs.map D.int).map OV.fz=xs.map λx=>OV.fz (D.int x):=by
 rw[map_map];rfl
theorem kn_int:("int"∈kitNs)=True:=eq_true (by decide)
theorem kn_bool:("bool"∈kitNs)=True:=eq_true (by decide)
theorem kn_tuple:("tuple"∈kitNs)=True:=eq_true (by decide)
theorem kn_list:("list"∈kitNs)=True:=eq_true (by decide)
theorem nat10:(Int.natAbs 10<2^64)=True:=eq_true (by decide)
theorem nat2:(Int.natAbs 2<2^64)=True:=eq_true (by decide)
theorem CmpW.map {α:Type}{Eo:DO}{o:Option Sl}{rest:Dst}{P:OV->Prop}(xs:List α)(g:α->D)(f:α->OV)(hn:xs.length<=1000000)
  (h:∀x∈xs,∀Q:OV->Prop,Q (f x)->Eo (some (.own (.fz (g x)))::rest) Q) (k:P (.nl (xs.map f))):CmpW (gN 0) Eo (xs.map g) (o::rest) P:=by
 refine⟨λi M ts=>∃o,M=o::rest/\ts=(xs.take i).map f,⟨o,rfl,rfl⟩,?_,?_⟩
 .rintro i d M ts hd ⟨o,rfl,rfl⟩
  obtain⟨x,hx,rfl⟩:=mget hd
  obtain⟨hi,e⟩:=List.getElem?_eq_some_iff.mp hx
  refine⟨by rw[length_map,length_take];lia,h x (mem_of_getElem? hx) _ ⟨_,rfl,?_⟩⟩
  rw[take_succ_eq_append_getElem hi,e,map_append]
  rfl
 .rintro M ts ⟨o,rfl,rfl⟩
  rw[length_map,take_length]
  exact k
theorem CmpW.rng {Eo:DO}{o:Option Sl}{rest:Dst}{P:OV->Prop}{lo c:Int}{n:Nat}(f:Nat->OV)(hn:n<=1000000)
  (h:∀i,i<n->∀Q:OV->Prop,Q (f i)->Eo (some (.own (.fz (.int (lo+i*c))))::rest) Q) (k:P (.nl ((List.range n).map f))):CmpW (gN 0) Eo (rng lo c n) (o::rest) P:=
 CmpW.map (List.range n) _ f (by simpa using hn) (λi hi Q q=>h i (mem_range.mp hi) Q q) k
theorem sSeq_k (h:∀N:Dst->Prop,(∀M',U De M'->N M')->T {De with nx:=N} M): sSeq T U De M:=h _ λ_ z=>z
end
end L2
namespace PySem
open AutoSeq1
abbrev lwSeq (T:String)(od:Option Addr)(xs:Array Value)(k:Nat)(sl:Array (Option Value)):Obj:={cls:=.type T,dict:=od,data:=.seq xs k,slots:=sl}
theorem lw_extend_list (l b:Addr)(xs ys:Array Value)(k m:Nat)(od:Option Addr)(sl:Array (Option Value))(h0:¬(!xs.isEmpty && Builtin.List.listTooLong (xs.size+ys.size))=true)(h1:xs.size<=sizeLine)(h2:xs.size+ys.size<=sizeLine+1):
  Meets (Builtin.«list.extend» ⟨[.ref l,.ref b],[]⟩) (λ_ R s=>s.heap.get? l=some (lwSeq "list" none xs k #[])/\s.heap.get? b=some (lwSeq "list" od ys m sl)/\R (.ok (.ret .none)) {s with heap:=s.heap.update l (Obj.mapSeq (·++ys)),toks:=s.toks}):=by
 refine .of_wp λprog w A R s hR=>?_
 obtain⟨e1,e2,fin⟩:=hR
 have room:(xs++ys).size<=sizeLine+1:=by
  rw[Array.size_append]
  exact h2
 wp_walk using (wpAny_updateSeq e1 rfl (_hz':=room)),wpAny_loadPart' e1,wpAny_loadPart' e2
 exact⟨_,rfl,fin⟩
theorem lw_extend_tuple (l b:Addr)(xs ys:Array Value)(k m:Nat)(od:Option Addr)(sl:Array (Option Value))(h0:¬(!xs.isEmpty && Builtin.List.listTooLong (xs.size+ys.size))=true)(h1:xs.size<=sizeLine)(h2:xs.size+ys.size<=sizeLine+1):
  Meets (Builtin.«list.extend» ⟨[.ref l,.ref b],[]⟩) (λ_ R s=>s.heap.get? l=some (lwSeq "list" none xs k #[])/\s.heap.get? b=some (lwSeq "tuple" od ys m sl)/\R (.ok (.ret .none)) {s with heap:=s.heap.update l (Obj.mapSeq (·++ys)),toks:=s.toks}):=by
 refine .of_wp λprog w A R s hR=>?_
 obtain⟨e1,e2,fin⟩:=hR
 have room:(xs++ys).size<=sizeLine+1:=by
  rw[Array.size_append]
  exact h2
 wp_walk using (wpAny_updateSeq e1 rfl (_hz':=room)),wpAny_loadPart' e1,wpAny_loadPart' e2
 exact⟨_,rfl,fin⟩
theorem lw_add_list (l b:Addr)(xs ys:Array Value)(k m:Nat)(od oe:Option Addr)(sl sm:Array (Option Value))(h0:xs.size+ys.size<=sizeLine):
  Meets (Builtin.«list.__add__» ⟨[.ref l,.ref b],[]⟩) (λ_ R s=>s.heap.get? l=some (lwSeq "list" od xs k sl)/\s.heap.get? b=some (lwSeq "list" oe ys m sm)/\R (.ok (.ret (.ref s.heap.objs.size))) {s with heap:=s.heap.push {cls:=.type "list",data:=.seq (xs++ys)},toks:=s.toks}):=by
 refine .of_wp λprog w A R s hR=>?_
 obtain⟨e1,e2,fin⟩:=hR
 have i3:=sub_list_list
 wp_walk using wpAny_loadPart' e1,wpAny_loadPart' e2
 exact⟨_,rfl,fin⟩
end PySem
namespace L2
open PySem PySem.Spec PyProof.Rows
section
variable {X:Cx}{K:Frag}
def rExtendS (K:Frag):V->List V->Hp->VK->Prop:=λx vs H Q=>∃l b xs zs,x = .ref l/\vs=[.ref b]/\H l=some (.lst xs)/\(SqL K H b zs∨SqT K H b zs)/\xs.length+zs.length<=sizeLine/\Q .non (upd H l (.lst (xs++zs)))
theorem mt_extendS:MtM X "list.extend" (rExtendS X.K):=by
 intro pins s O H x vs v us Q I rx rv h
 obtain⟨l,b,xs,zs,rfl,rfl,hH,hB,hz,q⟩:=h
 cases rx
 obtain⟨u,rfl,ru⟩:=rv.one
 cases ru
 obtain⟨z,its,n,r,hl,e⟩:=I.lstM hH
 have room:∀ys:List Value,ys.length=zs.length->its.toArray.size+ys.toArray.size<=sizeLine:=λys hy=>by rw[size_toArray,size_toArray];lia
 have fits:∀ys:List Value,ys.length=zs.length->¬ (!its.toArray.isEmpty && Builtin.List.listTooLong (its.toArray.size+ys.toArray.size))=true:=λys hy=>by
  rw[notLongL (room ys hy),Bool.and_false]
  exact Bool.false_ne_true
 have fin:∀ys:List Value,Vals zs ys->EP X pins O Q .none {s with heap:=s.heap.update l (Obj.mapSeq (·++ys.toArray)),toks:=s.toks}:=λys ry=>
  ⟨.non,_,I.lset (its':=its++ys) hH e (by simp) (r.append ry) (by rw[length_append];omega),rfl,q⟩
 rcases hB with hB |hB
 .obtain ⟨ys,ry,⟨o,m,e2,o1,o2,o3⟩,_⟩:=I.list hB
  obtain⟨oc,od,oda,osl⟩:=o
  subst o1 o3
  have hy:=ry.length
  exact call_meets F.slot_list_extend ⟨_,e,rfl⟩ F.entry_list_extend (F.args_list_extend_2 _ _) (lw_extend_list l b its.toArray ys.toArray n m od osl (fits ys hy.symm) (by rw[size_toArray];lia) (by have:=room ys hy.symm;lia)) ⟨e,e2,fin ys ry⟩
 .obtain ⟨ys,ry,⟨o,e2,o1,m,o3⟩,_⟩:=I.tuple hB
  obtain⟨oc,od,oda,osl⟩:=o
  subst o1 o3
  have hy:=ry.length
  exact call_meets F.slot_list_extend ⟨_,e,rfl⟩ F.entry_list_extend (F.args_list_extend_2 _ _) (lw_extend_tuple l b its.toArray ys.toArray n m od osl (fits ys hy.symm) (by rw[size_toArray];lia) (by have:=room ys hy.symm;lia)) ⟨e,e2,fin ys ry⟩
def rCatS (K:Frag):R2:=λx y H Q=>∃l b xs zs,x = .ref l/\y = .ref b/\SqL K H l xs/\SqL K H b zs/\xs.length+zs.length<=sizeLine/\∀p H',H p=none->Same H H'->H' p=some (.lst (xs++zs))->Q (.ref p) H'
theorem op_catS:OpR X (binaryOp .Add) (rCatS X.K):=by
 intro pins s O H x y v u Q I rx ry h
 obtain⟨l,b,xs,zs,rfl,rfl,hA,hB,hz,q⟩:=h
 cases rx
 cases ry
 obtain⟨its,r,⟨o,n,e,o1,o2,o3⟩,_⟩:=I.list hA
 obtain⟨its2,r2,⟨o',n2,e2,p1,p2,p3⟩,_⟩:=I.list hB
 obtain⟨oc,od,oda,osl⟩:=o
 obtain⟨pc,pd,pda,psl⟩:=o'
 subst o1 o3 p1 p3
 have l1:=r.length
 have l2:=r2.length
 refine PySem.concat_meets ⟨_,e,rfl⟩ ⟨_,e2,rfl⟩ PySem.noFill_list_add PySem.seq_list_add F.slot_list_add F.entry_list_add (F.args_list_add_2 _ _) (lw_add_list l b its.toArray its2.toArray n n2 od pd osl psl (by rw[size_toArray,size_toArray];lia)) ⟨e,e2,?_⟩
 have ea:its.toArray++its2.toArray=(its++its2).toArray:=by simp
 rw[ea]
 exact⟨.ref _,_,I.lnew (t':=s.toks) (r.append r2) (by rw[length_append];omega),rfl,q _ _ I.fresh (Same.new I.fresh) upd_same⟩
def dCatL (Ea Eb:DE):DO:=λM P=>Ea M λx=>Eb M λy=>match x,y with
 | .lst xs,.lst ys=>xs.length+ys.length<=1000000/\P (.nl ((xs++ys).map .fz))
 |_,_=>False
theorem sO_catL (ha:SimF K ta Ea)(hb:SimF K tb Eb): SimO K (tOp (rCatS K) ta tb) (dCatL Ea Eb):=λF0 H0 F H O M P Q e w q=>
 ha F0 H0 F H O M _ _ e w λx v F1 H1 w1 x1 r1=>hb F0 H0 F1 H1 O M _ _ (e.on x1) w1 λy u F2 H2 w2 x2 r2=>by
  have x12:=x1.trans x2
  split at w2
  .obtain ⟨p,vs,rfl,h1,h2⟩:=r1.mono x2.ff
   obtain⟨p',vs',rfl,h1',h2'⟩:=r2
   have l1:=h2.length
   have l2:=h2'.length
   exact⟨p,p',vs,vs',rfl,rfl,x2.fh.seq h1,x2.fh.seq h1',sz_le (by lia),λl H' l0 sm lq=>q _ _ F2 H' w2.2 (x12.trans (Ext.grow x2.fh sm)) (RepN.list (x12.hh.free l0) (x2.fh.free l0) lq (h2.append h2'))⟩
  .exact w2.elim
def Itw (K:Frag)(a:Addr)(n:Nat):It:=
 ⟨λi H=>∃xs x,SqL K H a xs/\xs.length=n/\i<n/\xs[n-1-i]?=some x,λi H x H'=>H'=H/\∀xs,SqL K H a xs->xs[n-1-i]?=some x,λi _=>n<=i⟩
theorem turn_revL (a it:Addr)(n:Nat): Turn P w K tg (Itw K a n) [it] it (λi h=>i<=n/\h.IsRevIter it a ((n:Int)-1-(i:Nat))) where
 mem:=by simp
 obj:=λi h st b hb=>by
  have e:b=it:=by simpa using hb
  subst e
  obtain⟨_,o,ho,_,hd⟩:=st
  exact⟨o,ho,λv z=>by rw[hd]at z;cases z⟩
 keep:=λi h h' st k=>⟨st.1,st.2.at λo e=>k it (by simp) o e⟩
 item:=by
  kj_on
  obtain⟨xs,x,hq,hn,hi,hx⟩:=hg
  obtain⟨its,rv,p,hz⟩:=I.list hq
  obtain⟨u,hu,ru⟩:=rv.get hx
  obtain⟨f0,f1,f2,f3,f4,f5⟩:=hf it (by simp)
  have st0:s.heap.IsRevIter it a (((n-1-i:Nat)):Int):=by
   have e:(((n-1-i:Nat)):Int)=(n:Int)-1-(i:Nat):=by lia
   rw[e];exact st.2
  refine PySem.wpAny_pyNext_rev_item st0 p.isList (by simpa using hu) λh' st' sb=>?_
  have I1:Inv X pins O H {s with heap:=h',toks:=s.toks}:=I.turned (t':=s.toks) (λb o hb e=>(sb.2 b hb).trans e) f0 f1 f3 f4 f5
  have st1:h'.IsRevIter it a ((n:Int)-1-((i+1:Nat):Int)):=by
   have e:(n:Int)-1-((i+1:Nat):Int)=(((n-1-i:Nat)):Int)-1:=by lia
   rw[e];exact st'
  obtain⟨o,ho,hc',hd'⟩:=id st1
  exact⟨u,rfl,go_of (s:={s with heap:=h',toks:=s.toks}) (n := "list_reverseiterator") ho hc' hd' rfl ⟨x,H,I1,ru,⟨rfl,λys hy=>by rw[I.list_inj hy hq];exact hx⟩,⟨by lia,st1⟩,λb hb=>(hf b hb).1⟩⟩
 done:=by
  intro X hP hw hK hc i pins s O H E I hf st hg
  obtain⟨f0,f1,f2,f3,f4,f5⟩:=hf it (by simp)
  have st0:s.heap.IsRevIter it a (-1):=by
   have h2:n<=i:=hg
   have e:(-1:Int)=(n:Int)-1-(i:Nat):=by lia
   rw[e];exact st.2
  exact PySem.wpAny_pyNext_rev_end (I.ok.hd hc) st0 λh' eb=>⟨rfl,I.turned (t':=s.toks) (λb o hb e=>eb b o hb e) f0 f1 f3 f4 f5⟩
 self:=λ_ _ _ _ _ st h=>PySem.wpAny_pyIter_revIter st.2 h
def iRevL (K:Frag)(ta:TA):TI:=λO H R=>ta O H λvs H1=>∃a xs,vs=[.ref a]/\SqL K H1 a xs/\R (Itw K a xs.length) H1
theorem pi_reversedL (hg:Gl X "reversed")(hm:X.mg "reversed"=none)(ha:PA X [l] ta)(hs:starEach [l] X.env=[(false,eval l X.env)]:=by rfl): PI X tg (.Call (.Name "reversed" p) [l] [] pos) (iRevL X.K ta):=by
 intro pins s O H R I h
 refine Call_ (ld_blt I hg hm PyProof.Rows.boot_reversed (PyProof.Rows.callWith_type1 (thn (ha pos pins s O H _ I h) λus s1 ⟨vs,H1,I1,r1,q1⟩=>?_) hs rfl))
 obtain⟨a,xs,e,hq,q⟩:=q1
 subst e
 obtain⟨u,rfl,ru⟩:=vals1 r1
 cases ru
 obtain⟨its,rv,pt,hz⟩:=I1.list hq
 have hl:=rv.length
 refine PySem.call_reversed_list pt.isList ?_
 have e0:(s1.heap.push (revObj a ((its.toArray.size:Int)-1))).IsRevIter s1.heap.objs.size a ((xs.length:Int)-1-((0:Nat):Int)):=by
  have e:(xs.length:Int)-1-((0:Nat):Int)=(its.toArray.size:Int)-1:=by rw[size_toArray];lia
  rw[e]
  exact⟨_,get?_push_size _ rfl,rfl,rfl⟩
 refine PySem.wpAny_pyIter_revIter e0 ?_
 refine⟨s1.heap.objs.size,[s1.heap.objs.size],_,_,H1,rfl,I1.kept (t':=s1.toks) λb o e=>get?_push_of_some _ e,turn_revL a _ xs.length,⟨zero_le _,e0⟩,λb hb=>?_,q⟩
 have e:b=s1.heap.objs.size:=by simpa using hb
 subst e
 exact I1.fpOk (Nat.le_refl _) (I1.hok.fresh (Nat.le_refl _))
def dRevL (As:DA):DA:=λM P=>As M λds=>match ds with
 | [.lst xs]=>P xs.reverse
 |_=>False
theorem sI_revL (h:SimAF K a As): SimI K (iRevL K a) (dRevL As):=λF0 H0 F H O M P R e w q=>h F0 H0 F H O M _ _ e w λds vs F' H' p x r=>by
 split at p
 .obtain ⟨v,rfl,a,us,rfl,h1,h2⟩:=reps1 r
  have hl:=h2.length
  refine⟨a,us,rfl,x.fh.seq h1,q _ _ F' H' p x λF1 H1 s1 s2=>?_⟩
  have hq:=(s1.trans s2).seq h1
  rw[length_reverse]
  refine⟨λi hi=>⟨us,us[us.length-1-i]'(by omega),hq,rfl,by lia,getElem?_eq_getElem (by omega)⟩,by show us.length<=_;lia,λi x H2 hi y=>?_⟩
  obtain⟨rfl,y⟩:=y
  obtain⟨d,hd,rd⟩:=h2.get' (y us hq)
  refine⟨d,F1,?_,Ext.refl s2,rd.mono s1⟩
  rw[getElem?_reverse hi,hl];exact hd
 .exact p.elim
theorem ER.frz {A:Nat->List Addr}(e:ER K F0 H0 F H O M A)(i:Nat)(hi:M[i]?=some (some (.own t))): ∃F',EnvR K F0 H0 F' H O (M.set i (some (.own (.fz t.val)))):=by
 obtain⟨v,hv,hr⟩:=e.own i t hi
 have hlt:=(List.getElem?_eq_some_iff.mp hi).1
 have sm:Same F λa=>if a∈A i then H a else F a:=λb o z=>by
  have hb:b∉A i:=λy=>by rw[(e.new i b y).1]at z;cases z
  dsimp only
  rw[if_neg hb];exact z
 refine⟨λa=>if a∈A i then H a else F a,λj=>if j=i then [] else A j,by simp[e.len],⟨e.ext.ff.trans sm,e.ext.hh,λb o z=>?_,λb o z1 z2 z3=>?_⟩,λj u hj=>?_,λj d hj=>?_,λj=>?_,λj k a hjk h1 h2=>?_,λj a ha=>?_⟩
 .split at z
  .exact z
  .exact e.ext.fh _ _ z
 .have hb:b∉A i:=λy=>by rw[(e.new i b y).2.1]at z2;cases z2
  rw[if_neg hb];exact e.ext.no b o z1 z2 z3
 .by_cases z:j=i
  .subst z
   rw[if_pos rfl]
   rw[getElem?_set_self hlt]at hj
   cases hj
   exact⟨v,hv,rfl,hr.rep sm λa ha xs q=>by rw[if_pos ha];exact q⟩
  .rw [if_neg z]
   rw[getElem?_set_ne (Ne.symm z)]at hj
   obtain⟨v',h1,h2⟩:=e.own j u hj
   exact⟨v',h1,h2.frame sm λa _ xs q=>q⟩
 .by_cases z:j=i
  .subst z
   rw[getElem?_set_self hlt]at hj
   cases hj
  .rw [getElem?_set_ne (Ne.symm z)]at hj
   exact e.bw j d hj
 .split
  .exact nodup_nil
  .exact e.nod j
 .split at h1
  .cases h1
  .split at h2
   .cases h2
   .exact e.dis j k a hjk h1 h2
 .split at ha
  .cases ha
  .rename_i z
   obtain⟨h1,h2,h3⟩:=e.new j a ha
   refine⟨?_,h2,h3⟩
   rw[if_neg λy=>e.dis j i a z ha y];exact h1
def sFrz (i:Nat)(T:DS):DS:=λDe M=>match M[i]? with
 |some (some (.own t))=>T De (M.set i (some (.own (.fz t.val))))
 |_=>False
theorem sS_frz (i:Nat)(h:SimS K t T): SimS K t (sFrz i T):=λF0 H0 F H O M De En ⟨A,e⟩ l w=>by
 unfold sFrz at w
 split at w
 .rename_i u hu
  obtain⟨F',e'⟩:=e.frz i hu
  exact h F0 H0 F' H O _ De En e' l w
 .exact w.elim
def sApp2 (i:Nat)(Ei:DE)(E:DO):DS:=λDe M=>match M[i]? with
 |some (some (.own (.nl ts)))=>Ei M λk=>match k with
  | .int k=>0<=k/\∃us,ts[k.toNat]?=some (.nl us)/\us.length<1000000/\E M λr=>De.nx (M.set i (some (.own (.nl (ts.set k.toNat (.nl (us++[r])))))))
  |_=>False
 |_=>False
theorem set_self_of {α:Type}{xs:List α}{i:Nat}{v:α}(h:xs[i]?=some v):xs.set i v=xs:=by
 obtain⟨hi,e⟩:=List.getElem?_eq_some_iff.mp h
 rw[<- e];exact List.set_getElem_self hi
theorem sS_app2 {i:Nat}{ti te:TE}{Ei:DE}{Eo:DO}(hi:SimB K ti Ei)(h:SimO K te Eo):SimS K (tDrop (tBM K "list" rAppend (tOp (rIxL K) (tVar i) ti) (tCons te tNil))) (sApp2 i Ei Eo):=λF0 H0 F H O M De En e l w=>by
 obtain⟨A,e⟩:=e
 unfold sApp2 at w
 split at w
 .rename_i ts hs
  obtain⟨v,hv,a,vs,B,rfl,eA,ha,hB⟩:=e.own i _ hs
  refine⟨_,hv,?_⟩
  refine hi F0 H0 F H O M _ _ ⟨A,e⟩ w λk kv F1 H1 p x1 r1=>?_
  split at p
  .rename_i k
   obtain⟨k0,us,hk,hus,p⟩:=p
   have e1:=e.on x1
   have ha1:=x1.hh _ _ ha
   have hB1:RepOs K F1 H1 ts vs B:=hB.frame x1.ff λb _ xs z=>x1.hh _ _ z
   obtain⟨v0,A1,B0,A2,f1,rfl,f3,f4⟩:=hB1.focus hk
   obtain⟨c,ws,B1,rfl,rfl,hc,hws⟩:=f3
   have at1:atI vs k=some (.ref c):=by
    have:=atI_nat f1
    rwa[show ((k.toNat:Nat):Int)=k by lia]at this
   refine⟨a,vs,k,.ref c,rfl,r1,SqL.of ha1,at1,.inl ⟨rfl,_,SqL.of hc⟩,?_⟩
   refine h F0 H0 F1 H1 O M _ _ ⟨A,e1⟩ p λr u F2 H2 p2 x2 n=>?_
   obtain⟨C,c1,c2,c3⟩:=n
   have e2:=e1.on x2
   have hl:=hws.length
   refine⟨c,ws,u,rfl,rfl,x2.hh _ _ hc,sz_lt (by lia),?_⟩
   have hnd:=e.nod i
   rw[eA]at hnd
   have hA:A i=a::(A1++(c::B1++A2)):=eA
   obtain⟨n1,n2⟩:=nodup_cons.mp hnd
   obtain⟨m1,m2,m3⟩:=nodup_append.mp n2
   obtain⟨q1,q2,q3⟩:=nodup_append.mp m2
   obtain⟨s1,s2⟩:=nodup_cons.mp q1
   have hCA:∀j b,b∈C->b∉A j:=λj b hb z=>by
    obtain⟨_,_,xs,q,_⟩:=e1.new j b z
    rw[(c3 b hb).1]at q;cases q
   have hcA:c∈A i:=by rw[hA];simp
   have hac:a≠c:=λz=>n1 (by rw[z];simp)
   have hcC:c∉C:=λz=>hCA i c z hcA
   have off:∀b∈A1++A2,b≠c:=λb hb z=>by
    subst z
    rcases mem_append.mp hb with y |y
    .exact m3 b y b (by simp) rfl
    .exact q3 b (by simp) b y rfl
   have ina:∀b,b∈a::(A1++(c::(B1++C)++A2))->b∈A i∨b∈C:=λb hb=>by
    rw[hA]
    simp only[mem_cons,mem_append,cons_append]at hb ⊢
    rcases hb with z |z |z | (z |z) |z<;>simp[z]
   have f4':=f4 F2 (upd H2 c (.lst (ws++[u]))) (.nl (us++[r])) (.ref c) (c::(B1++C)) x2.ff (λb hb xs z=>upd_off (off b hb) (x2.hh _ _ z))
    ⟨c,ws++[u],B1++C,rfl,rfl,upd_same,RepOs.append (hws.frame x2.ff λb hb xs z=>upd_off (λy=>s1 (by rw[<- y];exact hb)) (x2.hh _ _ z)) (RepOs.one (c1.frame (Same.refl _) λb hb xs z=>upd_off (λy=>hcC (by rw[<- y];exact hb)) z))⟩
   rw[set_self_of f1]at f4'
   refine l.nx F2 _ O _ (e2.change i hv (t':=.nl (ts.set k.toNat (.nl (us++[r])))) (B:=a::(A1++(c::(B1++C)++A2))) ⟨a,vs,_,rfl,rfl,upd_off hac (x2.hh _ _ ha1),f4'⟩ ?_ ?_ ?_ ?_) p2
   .have dC:∀x∈C,∀y∈A i,x≠y:=λx hx y hy z=>hCA i x hx (by rw[z];exact hy)
    rw[hA]at dC
    simp only[cons_append,nodup_cons,nodup_append,mem_cons,mem_append,not_or]at hnd n1 n2 m1 m2 m3 q1 q2 q3 s1 s2 ⊢
    refine⟨⟨n1.1,n1.2.1,⟨n1.2.2.1,λz=>dC a z a (by simp) rfl⟩,n1.2.2.2⟩,m1,⟨⟨⟨s1,hcC⟩,λz=>?_⟩,⟨s2,c2,λx hx y hy z=>dC y hy x (by simp[hx]) z.symm⟩,q2,λx hx y hy z=>?_⟩,λx hx y hy z=>?_⟩
    .exact q3 c (by simp) c z rfl
    .rcases hx with hx |hx
     .exact q3 x (by simp[hx]) y hy z
     .exact dC x hx y (by simp[hy]) z
    .rcases hy with hy | (hy |hy) |hy
     .exact m3 x hx y (by simp[hy]) z
     .exact m3 x hx y (by simp[hy]) z
     .exact dC y hy x (by simp[hx]) z.symm
     .exact m3 x hx y (by simp[hy]) z
   .intro b hb
    rcases ina b hb with z |z
    .exact ⟨(e2.new i b z).1,(e2.new i b z).2.1⟩
    .exact ⟨(c3 b z).2,e1.ext.hh.free (c3 b z).1⟩
   .intro j hj b hb z
    rcases ina b hb with y |y
    .exact e.dis j i b hj z y
    .exact hCA j b y z
   .intro b o hb q
    exact upd_off (λz=>hb (by rw[z];exact hcA)) q
  .exact p.elim
 .exact w.elim
def sExt (i:Nat)(E:DE):DS:=λDe M=>match M[i]? with
 |some (some (.own (.nl ts)))=>E M λd=>match d with
  | .lst ds=>ts.length+ds.length<=1000000/\De.nx (M.set i (some (.own (.nl (ts++ds.map .fz)))))
  | .tup ds=>ts.length+ds.length<=1000000/\De.nx (M.set i (some (.own (.nl (ts++ds.map .fz)))))
  |_=>False
 |_=>False
theorem sS_ext (h:SimF K te E): SimS K (tDrop (tBM K "list" (rExtendS K) (tVar i) (tCons te tNil))) (sExt i E):=λF0 H0 F H O M De En e l w=>by
 obtain⟨A,e⟩:=e
 unfold sExt at w
 split at w
 .rename_i ts hs
  obtain⟨v,hv,a,vs,B,rfl,eA,ha,hB⟩:=e.own i _ hs
  refine⟨_,hv,.inl ⟨rfl,_,SqL.of ha⟩,?_⟩
  refine h F0 H0 F H O M _ _ ⟨A,e⟩ w λd u F1 H1 p x1 r1=>?_
  have e1:=e.on x1
  have hl:=hB.length
  have hB1:RepOs K F1 H1 ts vs B:=hB.frame x1.ff λb _ xs z=>x1.hh _ _ z
  have hnd:=e.nod i
  rw[eA]at hnd
  obtain⟨n1,n2⟩:=nodup_cons.mp hnd
  have fin:∀(ds:List D) (us:List V),Reps K F1 ds us->De.nx (M.set i (some (.own (.nl (ts++ds.map .fz)))))->En.nx O (upd H1 a (.lst (vs++us))):=λds us hu p=>by
   refine l.nx F1 _ O _ (e1.change i hv (t':=.nl (ts++ds.map .fz)) (B:=a::(B++[])) ⟨a,vs++us,B++[],rfl,rfl,upd_same,?_⟩ ?_ ?_ ?_ ?_) p
   .exact RepOs.append (hB1.frame (Same.refl _) λb hb xs z=>upd_off (λq=>n1 (by rw[<- q];exact hb)) z) (RepOs.fzs hu)
   .rw [append_nil];exact hnd
   .intro b hb
    rw[append_nil,<- eA]at hb
    exact⟨(e1.new i b hb).1,(e1.new i b hb).2.1⟩
   .intro j hj b hb z
    rw[append_nil,<- eA]at hb
    exact e.dis j i b hj z hb
   .intro b o hb q
    exact upd_off (λz=>hb (by rw[eA,z];exact mem_cons_self)) q
  split at p
  .obtain ⟨c,us,rfl,q1,q2⟩:=r1
   have:=q2.length
   exact⟨a,c,vs,us,rfl,rfl,x1.hh _ _ ha,.inl (x1.fh.seq q1),sz_le (by lia),fin _ us q2 p.2⟩
  .obtain ⟨c,us,rfl,q1,q2⟩:=r1
   have:=q2.length
   exact⟨a,c,vs,us,rfl,rfl,x1.hh _ _ ha,.inr (x1.fh.seqT q1),sz_le (by lia),fin _ us q2 p.2⟩
  .exact p.elim
 .exact w.elim
end
def catTD:DR2:=λx y P=>match x,y with
 | .tup xs,.tup ys=>xs≠[]/\ys≠[]/\xs.length+ys.length<=1000000/\P (.tup (xs++ys))
 |_,_=>False
def D.fit:Nat->D->Bool
 |_,.int _=>true
 |_,.str _=>true
 |_,.non=>true
 |_,.bl _=>true
 |_,.ty _=>false
 |_,.fn _=>false
 |_,.dic=>false
 |_,.exc _=>false
 |_,.obj _ _ _=>false
 |_,.clo _ _ _ _=>false
 | 0,.tup _=>false
 | 0,.lst _=>false
 |n+1,.tup ds=>ds.all (D.fit n)
 |n+1,.lst ds=>ds.all (D.fit n)
mutual
def D.eqb:D->D->Bool
 | .int i,.int j=>decide (i=j)
 | .str x,.str y=>decide (x=y)
 | .non,.non=>true
 | .bl a,.bl b=>a==b
 | .bl a,.int j=>decide ((if a then 1 else 0)=j)
 | .int i,.bl b=>decide (i=if b then 1 else 0)
 | .tup xs,.tup ys=>D.eqbs xs ys
 | .lst xs,.lst ys=>D.eqbs xs ys
 |_,_=>false
def D.eqbs:List D->List D->Bool
 | [],[]=>true
 |x::xs,y::ys=>D.eqb x y && D.eqbs xs ys
 |_,_=>false
end
mutual
theorem D.eqb_refl:∀{d:D} {n:Nat},d.fit n=true->D.eqb d d=true
 | .int _,_,_=>by simp[D.eqb]
 | .str _,_,_=>by simp[D.eqb]
 | .non,_,_=>by simp[D.eqb]
 | .bl _,_,_=>by simp[D.eqb]
 | .ty _,_,h=>by simp[D.fit]at h
 | .fn _,_,h=>by simp[D.fit]at h
 | .dic,_,h=>by simp[D.fit]at h
 | .exc _,_,h=>by simp[D.fit]at h
 | .obj _ _ _,_,h=>by simp[D.fit]at h
 | .clo _ _ _ _,_,h=>by simp[D.fit]at h
 | .tup ds,0,h=>by simp[D.fit]at h
 | .lst ds,0,h=>by simp[D.fit]at h
 | .tup ds,n+1,h=>by
  simp only[D.eqb]
  exact D.eqbs_refl (n:=n) (by simpa only[D.fit] using h)
 | .lst ds,n+1,h=>by
  simp only[D.eqb]
  exact D.eqbs_refl (n:=n) (by simpa only[D.fit] using h)
theorem D.eqbs_refl:∀{ds:List D} {n:Nat},ds.all (D.fit n)=true->D.eqbs ds ds=true
 | [],_,_=>by simp[D.eqbs]
 |d::ds,n,h=>by
  rw[all_cons,and_eq_true]at h
  simp only[D.eqbs,D.eqb_refl h.1,D.eqbs_refl h.2,Bool.and_self]
end
def D.same:D->D->Bool
 | .tup _,.tup _=>true
 | .lst _,.lst _=>true
 |_,_=>false
def eqND:DR2:=λx y P=>x.same y=true/\x.fit 4=true/\y.fit 4=true/\P (.bl (D.eqb x y))
def neND:DR2:=λx y P=>x.same y=true/\x.fit 4=true/\y.fit 4=true/\P (.bl (!D.eqb x y))
def allD:List D->(D->Prop)->Prop:=λds P=>match ds with
 | [.lst xs]=>∃bs:List Bool,xs=bs.map D.bl/\P (.bl (bs.all id))
 |_=>False
def CmpIfW (G:D->Dst->(Dst->Prop)->Prop)(C:DT)(Eo:DO)(ds:List D)(M:Dst)(P:OV->Prop):Prop:=∃W:Nat->Dst->List OV->Prop,W 0 M []/\
 (∀i d M ts,ds[i]?=some d->W i M ts->ts.length<1000000/\G d M λM'=>C M' λb=>if b=true then Eo M' λr=>W (i+1) M' (ts++[r]) else W (i+1) M' ts)/\∀M ts,W ds.length M ts->P (.nl ts)
def dCompIf (I:DA)(ix:List (Option Nat))(G:D->Dst->(Dst->Prop)->Prop)(C:DT)(Eo:DO):DO:=λM P=>I M λds=>CmpIfW G C Eo ds (blkD ix M) P
def sPut2 (i:Nat)(Ek Em E:DE):DS:=λDe M=>E M λd=>match M[i]? with
 |some (some (.own (.nl ts)))=>Ek M λk=>match k with
  | .int k=>∃j us,ixN ts.length k=some j/\ts[j]?=some (.nl us)/\Em M λm=>match m with
   | .int m=>∃l,ixN us.length m=some l/\De.nx (M.set i (some (.own (.nl (ts.set j (.nl (us.set l (.fz d))))))))
   |_=>False
  |_=>False
 |_=>False
def stepG {α:Type}(xs:List α)(c:Int):List α:=(sliceRange 0 xs.length c).filterMap (xs[·]?)
def dSlSt (Ea Ec:DE):DO:=λM P=>Ea M λx=>Ec M λc=>match x,c with
 | .lst xs,.int c=>0<c/\P (.nl ((stepG xs c).map .fz))
 |_,_=>False
def dCallD (n:Nat)(sp:DSp)(dds:List D)(As:DA):DO:=λM P=>As M λds=>(ds++dds).length=n/\sp (ds++dds) P
section
variable {K:Frag}{X:Cx}
theorem sF_catT {ta tb:TE}{Ea Eb:DE}(ha:SimF K ta Ea)(hb:SimF K tb Eb):SimF K (tOp (rCatTS K) ta tb) (dOp catTD Ea Eb):=λF0 H0 F H O M P Q e w q=>
 ha F0 H0 F H O M _ _ e w λx v F1 H1 w1 x1 r1=>hb F0 H0 F1 H1 O M _ _ (e.on x1) w1 λy u F2 H2 w2 x2 r2=>by
  have x12:=x1.trans x2
  unfold catTD at w2
  split at w2
  .obtain ⟨p,vs,rfl,h1,h2⟩:=r1.mono x2.ff
   obtain⟨p',vs',rfl,h1',h2'⟩:=r2
   obtain⟨n1,n2,hz,w2⟩:=w2
   have l1:=h2.length
   have l2:=h2'.length
   have m1:vs≠[]:=λz=>n1 (List.length_eq_zero_iff.mp (by rw[l1,z];rfl))
   have m2:vs'≠[]:=λz=>n2 (List.length_eq_zero_iff.mp (by rw[l2,z];rfl))
   exact⟨p,p',vs,vs',rfl,rfl,x2.fh.seqT h1,x2.fh.seqT h1',m1,m2,sz_le (by lia),λl H' l0 sm lq=>q _ _ _ H' w2 (x12.trans (Ext.new x2.fh l0 sm lq)) ⟨l,vs++vs',rfl,.inl (.inl upd_same),(h2.append h2').mono (Same.upd' (x2.fh.free l0))⟩⟩
  .exact w2.elim
def eD (xs ys:List D)(j:Nat):Bool:=match xs[j]?,ys[j]? with
 |some x,some y=>D.eqb x y
 |_,_=>true
theorem eqbs_rng:∀(xs ys:List D),D.eqbs xs ys=((List.range (min xs.length ys.length)).all (eD xs ys) && xs.length==ys.length)
 | [],[]=>by simp[D.eqbs]
 | [],_::_=>by simp[D.eqbs]
 |_::_,[]=>by simp[D.eqbs]
 |x :: xs,y::ys=>by
  have ih:=eqbs_rng xs ys
  simp only[D.eqbs,length_cons]
  rw[show min (xs.length+1) (ys.length+1)=min xs.length ys.length+1 by lia,List.range_succ_eq_map,all_cons,List.all_map,ih]
  have e0:eD (x::xs) (y::ys) 0=D.eqb x y:=rfl
  have e1:(eD (x::xs) (y::ys)∘Nat.succ)=eD xs ys:=by
   funext j
   simp[eD,Function.comp]
  rw[e0,e1,Bool.and_assoc]
  congr 2
  simp
theorem rep_one (I:Inv X pins O H s): ∀(n:Nat) {x y:D} {v:V},x.fit n=true->y.fit n=true->Rep X.K H x v->Rep X.K H y v->D.eqb x y=true:=by
 have items:∀(n:Nat),(∀{x y:D} {v:V},x.fit n=true->y.fit n=true->Rep X.K H x v->Rep X.K H y v->D.eqb x y=true)->∀{xs ys:List D} {vs:List V},xs.all (D.fit n)=true->ys.all (D.fit n)=true->Reps X.K H xs vs->Reps X.K H ys vs->D.eqbs xs ys=true:=by
  intro n ih xs
  induction xs with
  |nil=>
   intro ys vs _ _ r1 r2
   cases r1
   cases ys with
   |nil=>rfl
   |cons y ys=>obtain⟨v,r,e,_⟩:=r2;cases e
  |cons x xs ihx=>
   intro ys vs f1 f2 r1 r2
   obtain⟨v,r,rfl,h1,h2⟩:=r1
   cases ys with
   |nil=>cases r2
   |cons y ys=>
    obtain⟨v',r',e,h3,h4⟩:=r2
    cases e
    rw[all_cons,and_eq_true]at f1 f2
    simp only[D.eqbs,ih f1.1 f2.1 h1 h3,ihx f1.2 f2.2 h2 h4,Bool.and_self]
 have tl:∀{a:Addr} {xs ys:List V},SqT X.K H a xs->SqL X.K H a ys->False:=λ{a xs ys} h1 h2=>by
  obtain⟨_,_,p1,_⟩:=I.tuple h1
  obtain⟨_,_,p2,_⟩:=I.list h2
  obtain⟨o,e1,c1,_⟩:=p1
  obtain⟨o',e2,c2,_⟩:=p2.isList
  rw[e1]at e2;cases e2
  rw[c1]at c2;simp at c2
 intro n
 induction n with
 |zero=>
  intro x y v fx fy rx ry
  cases x<;>cases y<;>simp[D.fit]at fx fy<;>simp[D.eqb]
  all_goals first
   | (have z:=(show v=_ from rx).symm.trans (show v=_ from ry);first | (injection z) | (cases z))
   |skip
 |succ n ih=>
  intro x y v fx fy rx ry
  cases x<;>cases y
  case tup.tup xs ys=>
   obtain⟨a,vs,rfl,h1,h2⟩:=rx
   obtain⟨b,us,e,h3,h4⟩:=ry
   cases e
   cases I.tuple_inj h1 h3
   simp only[D.eqb]
   exact items n ih (by simpa only[D.fit] using fx) (by simpa only[D.fit] using fy) h2 h4
  case lst.lst xs ys=>
   obtain⟨a,vs,rfl,h1,h2⟩:=rx
   obtain⟨b,us,e,h3,h4⟩:=ry
   cases e
   cases I.list_inj h1 h3
   simp only[D.eqb]
   exact items n ih (by simpa only[D.fit] using fx) (by simpa only[D.fit] using fy) h2 h4
  case tup.lst xs ys=>
   obtain⟨a,vs,rfl,h1,h2⟩:=rx
   obtain⟨b,us,e,h3,h4⟩:=ry
   cases e
   exact (tl h1 h3).elim
  case lst.tup xs ys=>
   obtain⟨a,vs,rfl,h1,h2⟩:=rx
   obtain⟨b,us,e,h3,h4⟩:=ry
   cases e
   exact (tl h3 h1).elim
  all_goals first
   | (simp[D.fit]at fx;done)
   | (simp[D.fit]at fy;done)
   | (have z:=(show v=_ from rx).symm.trans (show v=_ from ry);first | (cases z;done) | (injection z with z;simp[D.eqb,z];done) | (simp[D.eqb];done))
   | (obtain⟨a,vs,e,_⟩:=rx;have z:=e.symm.trans (show v=_ from ry);cases z;done)
   | (obtain⟨a,vs,e,_⟩:=ry;have z:=(show v=_ from rx).symm.trans e;cases z;done)
theorem eqAt_D (I:Inv X pins O H s): ∀(n:Nat) {A:Around} {x y:D} {v u:V} {a b:Value},A.units+n<cLine->x.fit n=true->y.fit n=true->Rep X.K H x v->Rep X.K H y u->RelV v a->RelV u b->SeqAt.EqAt A s a b (D.eqb x y):=by
 intro n
 induction n with
 |zero=>
  intro A x y v u a b hu fx fy rx ry ra rb
  by_cases hbl:(∃c,x = .bl c)∨∃c,y = .bl c
  .cases x<;>cases y<;>first | (simp[D.fit]at fx;done) | (simp[D.fit]at fy;done) | (rcases hbl with⟨c,z⟩ | ⟨c,z⟩<;>cases z;done) |skip
   case bl.bl=>cases (show v=_ from rx);cases (show u=_ from ry);cases ra;cases rb;simp only[D.eqb];exact SeqAt.EqAt.bool_bool _ _
   case bl.int=>cases (show v=_ from rx);cases (show u=_ from ry);cases ra;obtain⟨t,rfl⟩:=rb;simp only[D.eqb];rw[<- show ∀i j:Int,(i==j)=decide (i=j) from λi j=>by rw[Bool.eq_iff_iff];simp];exact SeqAt.EqAt.bool_int _ _ _
   case int.bl=>cases (show v=_ from rx);cases (show u=_ from ry);cases rb;obtain⟨t,rfl⟩:=ra;simp only[D.eqb];rw[<- show ∀i j:Int,(i==j)=decide (i=j) from λi j=>by rw[Bool.eq_iff_iff];simp];exact SeqAt.EqAt.int_bool _ _ _
   case bl.non=>cases (show v=_ from rx);cases (show u=_ from ry);cases ra;cases rb;exact SeqAt.EqAt.bool_none _
   case non.bl=>cases (show v=_ from rx);cases (show u=_ from ry);cases ra;cases rb;exact SeqAt.EqAt.none_bool _
   case bl.str=>cases (show v=_ from rx);cases (show u=_ from ry);cases ra;obtain⟨t,rfl⟩:=rb;exact SeqAt.EqAt.bool_str _ _ _
   case str.bl=>cases (show v=_ from rx);cases (show u=_ from ry);cases rb;obtain⟨t,rfl⟩:=ra;exact SeqAt.EqAt.str_bool _ _ _
  have key:flatV v=true/\flatV u=true/\eqV v u=D.eqb x y:=by
   cases x<;>cases y<;>first | (simp[D.fit]at fx;done) | (simp[D.fit]at fy;done) | (exact absurd (.inl ⟨_,rfl⟩) hbl) | (exact absurd (.inr ⟨_,rfl⟩) hbl) |skip
   all_goals
    have e1:v=_:=rx
    have e2:u=_:=ry
    subst e1 e2
    refine⟨rfl,rfl,?_⟩
    first |rfl | (simp[eqV,D.eqb];done) | (simp only[eqV,D.eqb];exact Bool.beq_eq_decide_eq _ _)
  rw[<- key.2.2]
  exact eqAt_V ra rb key.1 key.2.1
 |succ n ih=>
  intro A x y v u a b hu fx fy rx ry ra rb
  have hu0:A.units<cLine:=by lia
  have hu1:A.in1.units+n<cLine:=by rw[show A.in1.units=A.units+1 from rfl];lia
  cases x<;>cases y
  case tup.tup xs ys=>
   obtain⟨p,vs,rfl,h1,h2⟩:=rx
   obtain⟨q,us,rfl,h3,h4⟩:=ry
   cases ra
   cases rb
   by_cases hpq:p=q
   .subst hpq
    have:=rep_one I (n+1) fx fy (v:=.ref p) ⟨p,vs,rfl,h1,h2⟩ ⟨p,us,rfl,h3,h4⟩
    rw[this]
    exact SeqAt.EqAt.same _
   .obtain ⟨its,w1,p1,_⟩:=I.tuple h1
    obtain⟨its2,w2,p2,_⟩:=I.tuple h3
    have l1:=h2.length
    have l2:=h4.length
    have m1:=w1.length
    have m2:=w2.length
    simp only[D.fit]at fx fy
    have:=SeqAt.RcAt.tuples (e:=eD xs ys) p1 p2 hu0 (λj j1 j2=>by
     obtain⟨z1,e1,r1⟩:=w1.at j1
     obtain⟨z2,e2,r2⟩:=w2.at j2
     obtain⟨d1,g1,k1⟩:=h2.get' e1
     obtain⟨d2,g2,k2⟩:=h4.get' e2
     have e:eD xs ys j=D.eqb d1 d2:=by unfold eD;rw[g1,g2]
     rw[e]
     exact ih hu1 (all_eq_true.mp fx d1 (mem_of_getElem? g1)) (all_eq_true.mp fy d2 (mem_of_getElem? g2)) k1 k2 r1 r2)
    rw[show its.toArray.size=xs.length by rw[size_toArray];lia,show its2.toArray.size=ys.length by rw[size_toArray];lia,<- eqbs_rng]at this
    simp only[D.eqb]
    exact SeqAt.EqAt.of_refs hpq this
  case lst.lst xs ys=>
   obtain⟨p,vs,rfl,h1,h2⟩:=rx
   obtain⟨q,us,rfl,h3,h4⟩:=ry
   cases ra
   cases rb
   by_cases hpq:p=q
   .subst hpq
    have:=rep_one I (n+1) fx fy (v:=.ref p) ⟨p,vs,rfl,h1,h2⟩ ⟨p,us,rfl,h3,h4⟩
    rw[this]
    exact SeqAt.EqAt.same _
   .obtain ⟨its,w1,p1,_⟩:=I.list h1
    obtain⟨its2,w2,p2,_⟩:=I.list h3
    have l1:=h2.length
    have l2:=h4.length
    have m1:=w1.length
    have m2:=w2.length
    simp only[D.fit]at fx fy
    simp only[D.eqb]
    refine SeqAt.EqAt.of_refs hpq ?_
    by_cases hl:xs.length=ys.length
    .have:=SeqAt.RcAt.lists (e:=eD xs ys) p1.isList p2.isList (by rw[size_toArray,size_toArray];lia) hu0 (λj j1 j2=>by
      obtain⟨z1,e1,r1⟩:=w1.at j1
      obtain⟨z2,e2,r2⟩:=w2.at j2
      obtain⟨d1,g1,k1⟩:=h2.get' e1
      obtain⟨d2,g2,k2⟩:=h4.get' e2
      have e:eD xs ys j=D.eqb d1 d2:=by unfold eD;rw[g1,g2]
      rw[e]
      exact ih hu1 (all_eq_true.mp fx d1 (mem_of_getElem? g1)) (all_eq_true.mp fy d2 (mem_of_getElem? g2)) k1 k2 r1 r2)
     rw[eqbs_rng,<- hl,min_self,beq_self_eq_true,Bool.and_true]
     rw[show its.toArray.size=xs.length by rw[size_toArray];lia]at this
     exact this
    .rw [eqbs_rng,show (xs.length==ys.length)=false by simpa using hl,Bool.and_false]
     exact SeqAt.RcAt.lists_lengths p1.isList p2.isList (by rw[size_toArray,size_toArray];simp only[bne_iff_ne,ne_eq];lia) hu0
  case tup.lst xs ys=>
   obtain⟨p,vs,rfl,h1,h2⟩:=rx
   obtain⟨q,us,rfl,h3,h4⟩:=ry
   cases ra
   cases rb
   obtain⟨its,w1,p1,_⟩:=I.tuple h1
   obtain⟨its2,w2,p2,_⟩:=I.list h3
   exact SeqAt.EqAt.tuple_list p1 p2.isList hu0
  case lst.tup xs ys=>
   obtain⟨p,vs,rfl,h1,h2⟩:=rx
   obtain⟨q,us,rfl,h3,h4⟩:=ry
   cases ra
   cases rb
   obtain⟨its,w1,p1,_⟩:=I.list h1
   obtain⟨its2,w2,p2,_⟩:=I.tuple h3
   exact SeqAt.EqAt.list_tuple p1.isList p2 hu0
  case bl.tup=>obtain⟨p,vs,rfl,h1,_⟩:=ry;cases rb;cases (show v=_ from rx);cases ra;obtain⟨its,w1,p1,_⟩:=I.tuple h1;exact SeqAt.EqAt.bool_tuple _ p1 hu0
  case bl.lst=>obtain⟨p,vs,rfl,h1,_⟩:=ry;cases rb;cases (show v=_ from rx);cases ra;obtain⟨its,w1,p1,_⟩:=I.list h1;exact SeqAt.EqAt.bool_list _ p1.isList hu0
  case ty.tup=>simp[D.fit]at fx
  case ty.lst=>simp[D.fit]at fx
  case fn.tup=>simp[D.fit]at fx
  case fn.lst=>simp[D.fit]at fx
  case dic.tup=>simp[D.fit]at fx
  case dic.lst=>simp[D.fit]at fx
  case exc.tup=>simp[D.fit]at fx
  case obj.tup=>simp[D.fit]at fx
  case clo.tup=>simp[D.fit]at fx
  case clo.lst=>simp[D.fit]at fx
  case tup.clo=>simp[D.fit]at fy
  case lst.clo=>simp[D.fit]at fy
  case obj.lst=>simp[D.fit]at fx
  case tup.obj=>simp[D.fit]at fy
  case lst.obj=>simp[D.fit]at fy
  case exc.lst=>simp[D.fit]at fx
  case tup.dic=>simp[D.fit]at fy
  case lst.dic=>simp[D.fit]at fy
  case tup.exc=>simp[D.fit]at fy
  case lst.exc=>simp[D.fit]at fy
  case tup.bl=>obtain⟨p,vs,rfl,h1,_⟩:=rx;cases ra;cases (show u=_ from ry);cases rb;obtain⟨its,w1,p1,_⟩:=I.tuple h1;exact SeqAt.EqAt.tuple_bool _ p1 hu0
  case lst.bl=>obtain⟨p,vs,rfl,h1,_⟩:=rx;cases ra;cases (show u=_ from ry);cases rb;obtain⟨its,w1,p1,_⟩:=I.list h1;exact SeqAt.EqAt.list_bool _ p1.isList hu0
  case tup.ty=>simp[D.fit]at fy
  case lst.ty=>simp[D.fit]at fy
  case tup.fn=>simp[D.fit]at fy
  case lst.fn=>simp[D.fit]at fy
  case tup.int=>obtain⟨p,vs,rfl,h1,_⟩:=rx;cases ra;cases (show u=_ from ry);obtain⟨t,rfl⟩:=rb;obtain⟨its,w1,p1,_⟩:=I.tuple h1;exact SeqAt.EqAt.tuple_int _ _ p1 hu0
  case tup.non=>obtain⟨p,vs,rfl,h1,_⟩:=rx;cases ra;cases (show u=_ from ry);cases rb;obtain⟨its,w1,p1,_⟩:=I.tuple h1;exact SeqAt.EqAt.tuple_none p1 hu0
  case tup.str=>obtain⟨p,vs,rfl,h1,_⟩:=rx;cases ra;cases (show u=_ from ry);obtain⟨t,rfl⟩:=rb;obtain⟨its,w1,p1,_⟩:=I.tuple h1;exact SeqAt.EqAt.tuple_str _ _ p1 hu0
  case lst.int=>obtain⟨p,vs,rfl,h1,_⟩:=rx;cases ra;cases (show u=_ from ry);obtain⟨t,rfl⟩:=rb;obtain⟨its,w1,p1,_⟩:=I.list h1;exact SeqAt.EqAt.list_int _ _ p1.isList hu0
  case lst.non=>obtain⟨p,vs,rfl,h1,_⟩:=rx;cases ra;cases (show u=_ from ry);cases rb;obtain⟨its,w1,p1,_⟩:=I.list h1;exact SeqAt.EqAt.list_none p1.isList hu0
  case lst.str=>obtain⟨p,vs,rfl,h1,_⟩:=rx;cases ra;cases (show u=_ from ry);obtain⟨t,rfl⟩:=rb;obtain⟨its,w1,p1,_⟩:=I.list h1;exact SeqAt.EqAt.list_str _ _ p1.isList hu0
  case int.tup=>obtain⟨p,vs,rfl,h1,_⟩:=ry;cases rb;cases (show v=_ from rx);obtain⟨t,rfl⟩:=ra;obtain⟨its,w1,p1,_⟩:=I.tuple h1;exact SeqAt.EqAt.int_tuple _ _ p1 hu0
  case non.tup=>obtain⟨p,vs,rfl,h1,_⟩:=ry;cases rb;cases (show v=_ from rx);cases ra;obtain⟨its,w1,p1,_⟩:=I.tuple h1;exact SeqAt.EqAt.none_tuple p1 hu0
  case str.tup=>obtain⟨p,vs,rfl,h1,_⟩:=ry;cases rb;cases (show v=_ from rx);obtain⟨t,rfl⟩:=ra;obtain⟨its,w1,p1,_⟩:=I.tuple h1;exact SeqAt.EqAt.str_tuple _ _ p1 hu0
  case int.lst=>obtain⟨p,vs,rfl,h1,_⟩:=ry;cases rb;cases (show v=_ from rx);obtain⟨t,rfl⟩:=ra;obtain⟨its,w1,p1,_⟩:=I.list h1;exact SeqAt.EqAt.int_list _ _ p1.isList hu0
  case non.lst=>obtain⟨p,vs,rfl,h1,_⟩:=ry;cases rb;cases (show v=_ from rx);cases ra;obtain⟨its,w1,p1,_⟩:=I.list h1;exact SeqAt.EqAt.none_list p1.isList hu0
  case str.lst=>obtain⟨p,vs,rfl,h1,_⟩:=ry;cases rb;cases (show v=_ from rx);obtain⟨t,rfl⟩:=ra;obtain⟨its,w1,p1,_⟩:=I.list h1;exact SeqAt.EqAt.str_list _ _ p1.isList hu0
  all_goals
   refine ih (by lia) ?_ ?_ rx ry ra rb
   .first |rfl | (simp[D.fit]at fx;done) | (simp[D.fit];done)
   .first |rfl | (simp[D.fit]at fy;done) | (simp[D.fit];done)
def rEqN (K:Frag):R2:=λv u H Q=>∃x y,x.same y=true/\x.fit 4=true/\y.fit 4=true/\Rep K H x v/\Rep K H y u/\Q (.bl (D.eqb x y)) H
def rNeN (K:Frag):R2:=λv u H Q=>∃x y,x.same y=true/\x.fit 4=true/\y.fit 4=true/\Rep K H x v/\Rep K H y u/\Q (.bl (!D.eqb x y)) H
theorem op_eqN (hu:X.A.units+64<cLine): OpR X (compareOp .Eq) (rEqN X.K):=by
 intro pins s O H v u a b Q I ra rb h
 obtain⟨x,y,hs,fx,fy,rx,ry,q⟩:=h
 have hu0:X.A.units<cLine:=by lia
 have hu1:X.A.in1.units+3<cLine:=by rw[show X.A.in1.units=X.A.units+1 from rfl];lia
 cases x<;>cases y<;>first | (simp[D.same]at hs;done) |skip
 case tup.tup xs ys=>
  obtain⟨p,vs,rfl,h1,h2⟩:=rx
  obtain⟨p',us,rfl,h3,h4⟩:=ry
  cases ra
  cases rb
  obtain⟨its,w1,p1,_⟩:=I.tuple h1
  obtain⟨its2,w2,p2,_⟩:=I.tuple h3
  have l1:=h2.length
  have l2:=h4.length
  have m1:=w1.length
  have m2:=w2.length
  simp only[D.fit]at fx fy
  refine SeqAt.RcAt.tuples (e:=eD xs ys) p1 p2 hu0 (λj j1 j2=>by
   obtain⟨z1,e1,r1⟩:=w1.at j1
   obtain⟨z2,e2,r2⟩:=w2.at j2
   obtain⟨d1,g1,k1⟩:=h2.get' e1
   obtain⟨d2,g2,k2⟩:=h4.get' e2
   have e:eD xs ys j=D.eqb d1 d2:=by unfold eD;rw[g1,g2]
   rw[e]
   exact eqAt_D I 3 hu1 (all_eq_true.mp fx d1 (mem_of_getElem? g1)) (all_eq_true.mp fy d2 (mem_of_getElem? g2)) k1 k2 r1 r2) _ _ _ _ ?_
  rw[show its.toArray.size=xs.length by rw[size_toArray];lia,show its2.toArray.size=ys.length by rw[size_toArray];lia,<- eqbs_rng]
  simp only[D.eqb]at q
  exact⟨.bl _,H,I,rfl,q⟩
 case lst.lst xs ys=>
  obtain⟨p,vs,rfl,h1,h2⟩:=rx
  obtain⟨p',us,rfl,h3,h4⟩:=ry
  cases ra
  cases rb
  obtain⟨its,w1,p1,_⟩:=I.list h1
  obtain⟨its2,w2,p2,_⟩:=I.list h3
  have l1:=h2.length
  have l2:=h4.length
  have m1:=w1.length
  have m2:=w2.length
  simp only[D.fit]at fx fy
  simp only[D.eqb]at q
  rw[eqbs_rng]at q
  by_cases hl:xs.length=ys.length
  .refine SeqAt.RcAt.lists (e:=eD xs ys) p1.isList p2.isList (by rw[size_toArray,size_toArray];lia) hu0 (λj j1 j2=>by
    obtain⟨z1,e1,r1⟩:=w1.at j1
    obtain⟨z2,e2,r2⟩:=w2.at j2
    obtain⟨d1,g1,k1⟩:=h2.get' e1
    obtain⟨d2,g2,k2⟩:=h4.get' e2
    have e:eD xs ys j=D.eqb d1 d2:=by unfold eD;rw[g1,g2]
    rw[e]
    exact eqAt_D I 3 hu1 (all_eq_true.mp fx d1 (mem_of_getElem? g1)) (all_eq_true.mp fy d2 (mem_of_getElem? g2)) k1 k2 r1 r2) _ _ _ _ ?_
   rw[<- hl,min_self,beq_self_eq_true,Bool.and_true]at q
   rw[show its.toArray.size=xs.length by rw[size_toArray];lia]
   exact⟨.bl _,H,I,rfl,q⟩
  .rw [show (xs.length==ys.length)=false by simpa using hl,Bool.and_false]at q
   exact SeqAt.RcAt.lists_lengths p1.isList p2.isList (by rw[size_toArray,size_toArray];simp only[bne_iff_ne,ne_eq];lia) hu0 _ _ _ _ ⟨.bl _,H,I,rfl,q⟩
theorem op_neN (hu:X.A.units+64<cLine): OpR X (compareOp .NotEq) (rNeN X.K):=by
 intro pins s O H v u a b Q I ra rb h
 obtain⟨x,y,hs,fx,fy,rx,ry,q⟩:=h
 have hu0:X.A.units<cLine:=by lia
 have hu1:X.A.in1.units+3<cLine:=by rw[show X.A.in1.units=X.A.units+1 from rfl];lia
 cases x<;>cases y<;>first | (simp[D.same]at hs;done) |skip
 case tup.tup xs ys=>
  obtain⟨p,vs,rfl,h1,h2⟩:=rx
  obtain⟨p',us,rfl,h3,h4⟩:=ry
  cases ra
  cases rb
  obtain⟨its,w1,p1,_⟩:=I.tuple h1
  obtain⟨its2,w2,p2,_⟩:=I.tuple h3
  have l1:=h2.length
  have l2:=h4.length
  have m1:=w1.length
  have m2:=w2.length
  simp only[D.fit]at fx fy
  refine SeqAt.RcNeAt.tuples (e:=eD xs ys) p1 p2 hu0 (λj j1 j2=>by
   obtain⟨z1,e1,r1⟩:=w1.at j1
   obtain⟨z2,e2,r2⟩:=w2.at j2
   obtain⟨d1,g1,k1⟩:=h2.get' e1
   obtain⟨d2,g2,k2⟩:=h4.get' e2
   have e:eD xs ys j=D.eqb d1 d2:=by unfold eD;rw[g1,g2]
   rw[e]
   exact eqAt_D I 3 hu1 (all_eq_true.mp fx d1 (mem_of_getElem? g1)) (all_eq_true.mp fy d2 (mem_of_getElem? g2)) k1 k2 r1 r2) _ _ _ _ ?_
  rw[show its.toArray.size=xs.length by rw[size_toArray];lia,show its2.toArray.size=ys.length by rw[size_toArray];lia,<- eqbs_rng]
  simp only[D.eqb]at q
  exact⟨.bl _,H,I,rfl,q⟩
 case lst.lst xs ys=>
  obtain⟨p,vs,rfl,h1,h2⟩:=rx
  obtain⟨p',us,rfl,h3,h4⟩:=ry
  cases ra
  cases rb
  obtain⟨its,w1,p1,_⟩:=I.list h1
  obtain⟨its2,w2,p2,_⟩:=I.list h3
  have l1:=h2.length
  have l2:=h4.length
  have m1:=w1.length
  have m2:=w2.length
  simp only[D.fit]at fx fy
  simp only[D.eqb]at q
  rw[eqbs_rng]at q
  by_cases hl:xs.length=ys.length
  .refine SeqAt.RcNeAt.lists (e:=eD xs ys) p1.isList p2.isList (by rw[size_toArray,size_toArray];lia) hu0 (λj j1 j2=>by
    obtain⟨z1,e1,r1⟩:=w1.at j1
    obtain⟨z2,e2,r2⟩:=w2.at j2
    obtain⟨d1,g1,k1⟩:=h2.get' e1
    obtain⟨d2,g2,k2⟩:=h4.get' e2
    have e:eD xs ys j=D.eqb d1 d2:=by unfold eD;rw[g1,g2]
    rw[e]
    exact eqAt_D I 3 hu1 (all_eq_true.mp fx d1 (mem_of_getElem? g1)) (all_eq_true.mp fy d2 (mem_of_getElem? g2)) k1 k2 r1 r2) _ _ _ _ ?_
   rw[<- hl,min_self,beq_self_eq_true,Bool.and_true]at q
   rw[show its.toArray.size=xs.length by rw[size_toArray];lia]
   exact⟨.bl _,H,I,rfl,q⟩
  .rw [show (xs.length==ys.length)=false by simpa using hl,Bool.and_false]at q
   exact SeqAt.RcNeAt.lists_lengths p1.isList p2.isList (by rw[size_toArray,size_toArray];simp only[bne_iff_ne,ne_eq];lia) hu0 _ _ _ _ ⟨.bl _,H,I,rfl,q⟩
theorem oS_eqN:OpS K (rEqN K) eqND:=λF H x y v u P Q s rx ry w q=>by
 obtain⟨hs,fx,fy,w⟩:=w
 exact⟨x,y,hs,fx,fy,rx,ry,q _ _ F H w (Ext.refl s) rfl⟩
theorem oS_neN:OpS K (rNeN K) neND:=λF H x y v u P Q s rx ry w q=>by
 obtain⟨hs,fx,fy,w⟩:=w
 exact⟨x,y,hs,fx,fy,rx,ry,q _ _ F H w (Ext.refl s) rfl⟩
end
structure BltV (mg:Str->Option Value):Prop extends Blt mg where
 abs:mg "abs"=none
 any:mg "any"=none
 sum:mg "sum"=none
 sorted:mg "sorted"=none
 set:mg "set"=none
 enumerate:mg "enumerate"=none
 dict:mg "dict"=none
 str:mg "str"=none
 divmod:mg "divmod"=none
 ord:mg "ord"=none
abbrev DTb:=List (Str×DSp)
def dCallL (i n:Nat)(tb:DTb)(As:DA):DO:=λM P=>match M[i]? with
 |some (some (.own (.fz (.fn x))))=>∃sp,(x,sp)∈tb/\As M λds=>ds.length=n/\sp ds P
 |_=>False
def dCallLB (i n:Nat)(tb:DTb)(As:DA):DO:=λM P=>match M[i]? with
 |some (some (.own (.fz (.fn x))))=>∃sp,(x,sp)∈tb/\As M λds=>ds.length=n/\sp ds λr=>r.lf=true/\P r
 |_=>False
abbrev DIO:=List OV->List D->(List OV->Prop)->Prop
def sCallIO (i n:Nat)(sp:DIO)(As:DA):DS:=λDe M=>match M[i]? with
 |some (some (.own (.nl ts)))=>As M λds=>ds.length+1=n/\sp ts ds λts'=>De.nx (M.set i (some (.own (.nl ts'))))
 |_=>False
def startIO (N:List Str)(a:Addr)(ts:List OV)(ds:List D):Dst:=some (.own (.rt a ts))::(ds.map (λd=>some (.own (.fz d)))++List.replicate (N.length-(ds.length+1)) none)
def sTag (i:Nat)(T:DS):DS:=λDe M=>match M[i]? with
 |some (some (.own (.rt a ts)))=>T {De with nx:=λM'=>match M'[i]? with
   |some (some (.own (.nl ts')))=>De.nx (M'.set i (some (.own (.rt a ts'))))
   |_=>False} (M.set i (some (.own (.nl ts))))
 |_=>False
def gB (i:Nat):D->Dst->(Dst->Prop)->Prop:=λd M P=>P (M.set i (some (.bw d)))
def dCompB (El:DE)(ix:List (Option Nat))(Eo:DO):DO:=λM P=>El M λd=>match d with
 | .lst ds=>CmpW (gB 0) Eo ds (blkD ix M) P
 |_=>False
section
variable {K:Frag}{X:Cx}{mg:Str->Option Value}
def NsOf (K:Frag)(mg:Str->Option Value)(x:Str):Prop:=∃f,nsIn K mainGlobals x=some (some (.ref f))/\mg x=some (.ref f)
def tFn (K:Frag)(x:Str):TE:=λO H Q=>∃f,nsIn K mainGlobals x=some (some (.ref f))/\Q (.ref f) H
theorem pe_fn (hg:Gl X x)(h:NsOf X.K X.mg x)(hd:(x==("__debug__":Str))=false:=by decide): PE X (.Name x pos) (tFn X.K x):=by
 intro pins s O H Q I ⟨f,e,q⟩
 obtain⟨f',e1,e2⟩:=h
 rw[e]at e1
 cases e1
 exact pe_glob (v:=.ref f) hg e2 rfl hd pins s O H Q I q
theorem sF_fn (h:NsOf K mg x): SimF K (tFn K x) (dC (.fn x)):=λF0 H0 F H O M P Q e w q=>by
 obtain⟨f,e1,_⟩:=h
 exact⟨f,e1,q _ _ F H w (Ext.refl e.ext.fh) ⟨f,rfl,e1⟩⟩
def tCallL (mg:Str->Option Value)(i:Nat)(tb:List (Str×Sp))(t:TA):TE:=λO H Q=>∃x sp f,(x,sp)∈tb/\mg x=some (.ref f)/\O[i]?=some (some (.ref f))/\t O H λvs H1=>sp vs H1 Q E0
theorem pe_calL (hn:PE X (.Name y p) (tVar i))(C:∀x sp,(x,sp)∈tb->∃ps,Cal X.prog X.w X.K X.mg X.base x k ps sp)(hr:Room k X.A)(ha:PA X (e::es) t)
  (he:starEach (e::es) X.env=(false,eval e X.env)::starEach es X.env:=by rfl) (hpl:(backTo pos (starEach es X.env)).any (·.1)=false:=by rfl):
  PE X (.Call (.Name y p) (e::es) [] pos) (tCallL X.mg i tb t):=by
 intro pins s O H Q I ⟨x,sp,f,hm,hmg,hs,h⟩
 obtain⟨ps,⟨f',fd,F,hm',hk,hb⟩⟩:=C x sp hm
 rw[hmg]at hm'
 cases hm'
 refine wpAny_Call_Name_kw (thn (hn pins s O H (λv H1=>v = .ref f/\H1=H) I ⟨_,hs,rfl,rfl⟩) λu s1 ⟨v,H1,I1,r1,e1,e2⟩=>?_)
 subst e1 e2
 cases r1
 refine callWith_K I1.ok.mod.kin hk (thn (ha pos pins s1 O H1 _ I1 h) λus s2 ⟨vs,H2,I2,r,q⟩=>⟨I2.kIn,?_⟩) he hpl
 exact run_fn F hr hb .nil pass0 I2 r (by rw[append_nil];exact q)
theorem Cal.mono (C:Cal P w K mg base x j ps sp)(h:j<=k): Cal P w K mg base x k ps sp:=by
 obtain⟨f,fd,F,a,b,c⟩:=C.ex
 exact⟨f,fd,F.mono h,a,b,c⟩
def tbV (K:Frag)(n:Nat)(tb:DTb):List (Str×Sp):=tb.map λp=>(p.1,spV K n p.2)
theorem tbV_all (h:∀p∈tb,∃ps,Cal P w K mg base p.1 k ps (spV K n p.2)): ∀x sp,(x,sp)∈tbV K n tb->∃ps,Cal P w K mg base x k ps sp:=λx sp hm=>by
 obtain⟨p,hp,e⟩:=mem_map.mp hm
 cases e
 exact h p hp
theorem sO_callL (hN:∀p∈tb,NsOf K mg p.1)(ha:SimAF K a As): SimO K (tCallL mg i (tbV K n tb) a) (dCallL i n tb As):=λF0 H0 F H O M P Q e w q=>by
 unfold dCallL at w
 split at w
 .rename_i x hx
  obtain⟨A,e⟩:=e
  obtain⟨v,hv,_,f,rfl,hf⟩:=e.own i _ hx
  obtain⟨sp,hm,w⟩:=w
  obtain⟨f',n1,n2⟩:=hN _ hm
  rw[hf]at n1
  cases n1
  refine⟨x,spV K n sp,f,mem_map.mpr ⟨_,hm,rfl⟩,n2,hv,?_⟩
  refine ha F0 H0 F H O M _ _ ⟨A,e⟩ w λds vs F1 H1 w1 x1 r1=>?_
  exact⟨by rw[<- r1.length];exact w1.1,F1,ds,P,x1.fh,r1,w1.2,λr v F' H' p x' r'=>q r v F' H' p (x1.trans x') (r'.old x1.hh)⟩
 .exact w.elim
theorem sO_callLB (hN:∀p∈tb,NsOf K mg p.1)(ha:SimAB K a As): SimO K (tCallL mg i (tbV K n tb) a) (dCallLB i n tb As):=λF0 H0 F H O M P Q e w q=>by
 unfold dCallLB at w
 split at w
 .rename_i x hx
  obtain⟨A,e⟩:=e
  obtain⟨v,hv,_,f,rfl,hf⟩:=e.own i _ hx
  obtain⟨sp,hm,w⟩:=w
  obtain⟨f',n1,n2⟩:=hN _ hm
  rw[hf]at n1
  cases n1
  refine⟨x,spV K n sp,f,mem_map.mpr ⟨_,hm,rfl⟩,n2,hv,?_⟩
  refine ha F0 H0 F H O M _ _ ⟨A,e⟩ w λds vs F1 H1 w1 x1 r1=>?_
  refine⟨by rw[<- r1.length];exact w1.1,H1,ds,_,Same.refl _,r1,w1.2,λr v F' H' p x' r'=>?_⟩
  have s1:Same F1 F':=x1.fh.trans x'.ff
  have x2:=frzT_ext s1
  obtain⟨A,a1,a2,a3⟩:=r'
  refine q r v (frzT F1 F') H' p.2 (x1.trans ⟨x2.ff,x'.hh,x2.fh.trans x'.fh,λb o z1 z2 z3=>?_⟩) ⟨A,a1.lf s1 p.1,a2,λb hb=>⟨x1.hh.free (a3 b hb).1,x2.fh.free (a3 b hb).2⟩⟩
  exact x2.no b o z1 (x'.ff _ _ z2) z3
 .exact w.elim
def spIO (K:Frag)(n:Nat)(sp:DIO):Sp:=spL n λvs H Q=>∃F a ts vs0 B rest ds P,vs=V.ref a::rest/\Same F H/\H a=some (.lst vs0)/\RepOs K F H ts vs0 B/\(a::B).Nodup/\(∀b∈a::B,F b=none)/\Reps K F ds rest/\sp ts ds P/\
 ∀ts' F' H' vs' B',P ts'->Same F F'->Same F' H'->(∀b o,b∉a::B->H b=some o->H' b=some o)->(∀b o,F b=none->H b=some o->imm o=false->b∉a::B->F' b=none)->H' a=some (.lst vs')->RepOs K F' H' ts' vs' B'->(a::B').Nodup->
  (∀b∈a::B',F' b=none/\(b∈a::B∨H b=none))->Q .non H'
theorem sS_callIO (ha:SimAF K a As): SimS K (tDrop (tCall (spIO K n sp) [] E0 (tCons (tVar i) a))) (sCallIO i n sp As):=λF0 H0 F H O M De En e l w=>by
 obtain⟨A,e⟩:=e
 unfold sCallIO at w
 split at w
 .rename_i ts hs
  obtain⟨v,hv,p,vs,B,rfl,eA,hp,hB⟩:=e.own i _ hs
  refine⟨_,hv,?_⟩
  refine ha F0 H0 F H O M _ _ ⟨A,e⟩ w λds us F1 H1 w1 x1 r1=>?_
  show spIO K n sp ((V.ref p::us)++[]) H1 (λ_ H2=>En.nx O H2) E0
  rw[append_nil]
  have e1:=e.on x1
  have hnd:=e.nod i
  rw[eA]at hnd
  have hlt:i<M.length:=(List.getElem?_eq_some_iff.mp hs).1
  refine⟨by rw[length_cons,<- r1.length];exact w1.1,F1,p,ts,vs,B,us,ds,_,rfl,x1.fh,x1.hh _ _ hp,hB.frame x1.ff λb _ xs z=>x1.hh _ _ z,hnd,λb hb=>(e1.new i b (by rw[eA];exact hb)).1,r1,w1.2,?_⟩
  intro ts' F' H' vs' B' pt sF sH keep nofz hp' hB' nd' nw'
  refine l.nx F' H' O _ ⟨λj=>if j=i then p::B' else A j,?_⟩ pt
  refine⟨by simp[e.len],⟨e1.ext.ff.trans sF,λb o h=>?_,sH,λb o h1 h2 h3=>?_⟩,λj t hj=>?_,λj d hj=>?_,λj=>?_,λj k b hjk h1 h2=>?_,λj b hb=>?_⟩
  .exact keep b o (λz=>by rw[(e1.new i b (by rw[eA];exact z)).2.1]at h;cases h) (e1.ext.hh _ _ h)
  .exact nofz b o (e1.ext.no b o h1 h2 h3) (e1.ext.hh _ _ h2) h3 (λz=>by rw[(e1.new i b (by rw[eA];exact z)).2.1]at h2;cases h2)
  .by_cases z:j=i
   .subst z
    rw[if_pos rfl]
    rw[getElem?_set_self hlt]at hj
    cases hj
    exact⟨_,hv,p,vs',B',rfl,rfl,hp',hB'⟩
   .rw [if_neg z]
    rw[getElem?_set_ne (Ne.symm z)]at hj
    obtain⟨u,h1,h2⟩:=e1.own j t hj
    exact⟨u,h1,h2.frame sF λb hb xs q=>keep b _ (λy=>e.dis j i b z hb (by rw[eA];exact y)) q⟩
  .by_cases z:j=i
   .subst z
    rw[getElem?_set_self hlt]at hj
    cases hj
   .rw [getElem?_set_ne (Ne.symm z)]at hj
    exact e1.bw j d hj
  .split
   .exact nd'
   .exact e.nod j
  .have key:∀k,k≠i->b∈p::B'->b∈A k->False:=λk hk z1 z2=>by
    rcases (nw' b z1).2 with y |y
    .exact e.dis k i b hk z2 (by rw[eA];exact y)
    .obtain ⟨_,_,xs,q,_⟩:=e1.new k b z2
     rw[y]at q;cases q
   split at h1
   .split at h2
    .lia
    .rename_i z1 z2
     exact key k z2 h1 h2
   .split at h2
    .rename_i z1 z2
     exact key j z1 h2 h1
    .exact e.dis j k b hjk h1 h2
  .split at hb
   .have hh:H0 b=none:=by
     rcases (nw' b hb).2 with y |y
     .exact (e1.new i b (by rw[eA];exact y)).2.1
     .exact e1.ext.hh.free y
    refine⟨(nw' b hb).1,hh,?_⟩
    rcases mem_cons.mp hb with y |y
    .rw [y];exact⟨_,hp',rfl⟩
    .exact hB'.isl b y
   .rename_i z
    obtain⟨h1,h2,xs,h3,himm⟩:=e1.new j b hb
    have hni:b∉p::B:=λy=>e.dis j i b z hb (by rw[eA];exact y)
    exact⟨nofz b _ h1 h3 himm hni,h2,xs,keep b _ hni h3,himm⟩
 .exact w.elim
theorem CalIO.of {P:Program}{w:World}{base:Heap}{x:Str}{st:Stmt}{f:Addr}{fd:FuncData}{N ps:List Str}{k n:Nat}{sp:DIO}(Df:DefAt K mg x st f fd)(S:FnScope N ps (defScope st))
  (hb:∀(kV doc pm:Value) (an:Option Addr) (cdv ct:Value) (us:List Value),us.length=ps.length->bindArgs (fnOf x x (defArgs st) (defBody st) (defScope st) .none kV doc pm an cdv ct) ⟨us,[]⟩=pure (ps.zip us)) (hn:n=ps.length)
  (hbody:∀(cdv:Value) (A:Around) (outer:List Env) (s:Shared) (H:Hp) (E:XK),Room k (A.deeper (envOfC x (defScope st) s.heap.objs.size f cdv))->
   ∃t T,PSs (cxOf CX0 P w K mg base N x (defScope st) f cdv A outer s H E).nox (defBody st) t/\SimS K t T/\∀(a:Addr) ts ds Pr,sp ts ds Pr->T {nx:=λM=>∃ts',M[0]?=some (some (.own (.rt a ts')))/\Pr ts',rt:=λ_=>False} (startIO N a ts ds)):Cal P w K mg base x (k+1) ps (spIO K n sp):=
 Cal.of Df S hb (λvs H Q E h=>by rw[<- hn];exact h.1) λcdv A outer s H vs Q E hr h=>by
  obtain⟨_,F,a,ts,vs0,B,rest,ds,Pr,rfl,hs,ha,hB,hnd,hnf,hr',hsp,hq⟩:=h
  obtain⟨t,T,h1,h2,h3⟩:=hbody cdv A outer s H E hr
  have hl:=hr'.length
  have er : ER K F (λb=>if b∈a::B then none else H b) F H (start N (V.ref a::rest)) (startIO N a ts ds) (λj=>if j=0 then a::B else []):=by
   refine⟨by simp[start,startIO,hl],⟨Same.refl _,λb o z=>?_,hs,λ_ _ z _ _=>z⟩,λi t hi=>?_,λi d hi=>?_,λj=>?_,λj k b hjk y1 y2=>?_,λj b hb=>?_⟩
   .split at z
    .cases z
    .exact z
   .unfold startIO at hi
    cases i with
    |zero=>
     simp at hi
     subst hi
     exact⟨.ref a,rfl,vs0,B,rfl,rfl,ha,hB⟩
    |succ i=>
     rw[List.getElem?_cons_succ]at hi
     by_cases z:i<ds.length
     .rw [getElem?_append_left (by simpa using z),getElem?_map,getElem?_eq_getElem z]at hi
      simp at hi
      subst hi
      obtain⟨v,g1,g2⟩:=hr'.get (getElem?_eq_getElem z)
      refine⟨v,?_,rfl,g2⟩
      unfold start
      rw[map_cons,cons_append,List.getElem?_cons_succ,getElem?_append_left (by simp;lia),getElem?_map,g1]
      rfl
     .rw [getElem?_append_right (by simpa using z)]at hi
      have:=mem_of_getElem? hi
      rw[mem_replicate]at this
      cases this.2
   .unfold startIO at hi
    cases i with
    |zero=>simp at hi
    |succ i=>
     rw[List.getElem?_cons_succ]at hi
     by_cases z:i<ds.length
     .rw [getElem?_append_left (by simpa using z),getElem?_map]at hi
      simp at hi
     .rw [getElem?_append_right (by simpa using z)]at hi
      have:=mem_of_getElem? hi
      rw[mem_replicate]at this
      cases this.2
   .split
    .exact hnd
    .exact nodup_nil
   .split at y1
    .split at y2
     .lia
     .cases y2
    .cases y1
   .split at hb
    .refine ⟨hnf b hb,if_pos hb,?_⟩
     rcases mem_cons.mp hb with y |y
     .rw [y];exact⟨_,ha,rfl⟩
     .exact hB.isl b y
    .cases hb
  refine⟨t,h1,h2 F _ F H (start N (V.ref a::rest)) (startIO N a ts ds) {nx:=λM=>∃ts',M[0]?=some (some (.own (.rt a ts')))/\Pr ts',rt:=λ_=>False} _ ⟨_,er⟩ ⟨λF' H' O M e p=>?_,λ_ _ _ _ _ z=>z.elim,λ_ _ _ _ _ z=>z.elim,λ_ _ _ _ _ _ z=>z.elim⟩ (h3 a ts ds Pr hsp)⟩
  obtain⟨A',e⟩:=e
  obtain⟨ts',h0,hp⟩:=p
  obtain⟨v,hv,vs',B',rfl,eA,g1,g2⟩:=e.own 0 _ h0
  have hn':=e.nod 0
  rw[eA]at hn'
  refine hq ts' F' H' vs' B' hp e.ext.ff e.ext.fh (λb o y z=>?_) (λb o y1 y2 y3 y4=>?_) g1 g2 hn' (λb hb=>?_)
  .exact e.ext.hh b o (by rw[if_neg y];exact z)
  .exact e.ext.no b o y1 (by rw[if_neg y4];exact y2) y3
  .obtain ⟨z1,z2,_⟩:=e.new 0 b (by rw[eA];exact hb)
   refine⟨z1,?_⟩
   by_cases q:b∈a::B
   .exact .inl q
   .rw [if_neg q]at z2;exact .inr z2
def LocS (t:TS):Prop:=∀E O H,t {E with nx:=λO' H'=>O'=O->E.nx O' H'} O H->t E O H
theorem nx_loc {E:Ends}{O:St}:(λH'=>O=O->E.nx O H')=E.nx O:=funext λH'=>propext ⟨λz=>z rfl,λz _=>z⟩
theorem loc_put {te to ti:TE}{r:TSet}:LocS (tAsg te (gSub to ti r)):=λE O H h=>by
 have h':te O H λx H1=>to O H1 λo H2=>ti O H2 λi H3=>r o i x H3 (λH'=>O=O->E.nx O H'):=h
 rw[nx_loc]at h'
 exact h'
theorem EnvR.untag (e:EnvR K F0 H0 F H O M)(h:M[i]?=some (some (.own (.rt a ts)))): O[i]?=some (some (.ref a))/\EnvR K F0 H0 F H O (M.set i (some (.own (.nl ts)))):=by
 obtain⟨A,e⟩:=e
 obtain⟨v,hv,vs,B,rfl,eA,h1,h2⟩:=e.own i _ h
 have hlt:i<M.length:=(List.getElem?_eq_some_iff.mp h).1
 refine⟨hv,A,by simp[e.len],e.ext,λj t hj=>?_,λj d hj=>?_,e.nod,e.dis,e.new⟩
 .by_cases z:j=i
  .subst z
   rw[getElem?_set_self hlt]at hj
   cases hj
   exact⟨_,hv,a,vs,B,rfl,eA,h1,h2⟩
  .rw [getElem?_set_ne (Ne.symm z)]at hj
   exact e.own j t hj
 .by_cases z:j=i
  .subst z
   rw[getElem?_set_self hlt]at hj
   cases hj
  .rw [getElem?_set_ne (Ne.symm z)]at hj
   exact e.bw j d hj
theorem EnvR.retag (e:EnvR K F0 H0 F H O M)(h:M[i]?=some (some (.own (.nl ts))))(hσ:O[i]?=some (some (.ref a))): EnvR K F0 H0 F H O (M.set i (some (.own (.rt a ts)))):=by
 obtain⟨A,e⟩:=e
 obtain⟨v,hv,a',vs,B,rfl,eA,h1,h2⟩:=e.own i _ h
 rw[hσ]at hv
 cases hv
 have hlt:i<M.length:=(List.getElem?_eq_some_iff.mp h).1
 refine⟨A,by simp[e.len],e.ext,λj t hj=>?_,λj d hj=>?_,e.nod,e.dis,e.new⟩
 .by_cases z:j=i
  .subst z
   rw[getElem?_set_self hlt]at hj
   cases hj
   exact⟨_,hσ,vs,B,rfl,eA,h1,h2⟩
  .rw [getElem?_set_ne (Ne.symm z)]at hj
   exact e.own j t hj
 .by_cases z:j=i
  .subst z
   rw[getElem?_set_self hlt]at hj
   cases hj
  .rw [getElem?_set_ne (Ne.symm z)]at hj
   exact e.bw j d hj
theorem sS_tag (hl:LocS t)(h:SimS K t T): SimS K t (sTag i T):=λF0 H0 F H O M De E e l w=>by
 unfold sTag at w
 split at w
 .rename_i a ts hs
  obtain⟨hσ,e'⟩:=e.untag hs
  have lk:Lk K F0 H0 {De with nx:=λM'=>match M'[i]? with |some (some (.own (.nl ts')))=>De.nx (M'.set i (some (.own (.rt a ts')))) |_=>False} {E with nx:=λO' H'=>O'=O->E.nx O' H'}:=by
   refine⟨λF1 H1 O1 M1 e1 p hq=>?_,l.bk,l.ct,l.rt⟩
   subst hq
   dsimp only at p
   split at p
   .rename_i ts' hs'
    exact l.nx F1 H1 _ _ (e1.retag hs' hσ) p
   .exact p.elim
  exact hl E O H (h F0 H0 F H O _ _ _ e' lk w)
 .exact w.elim
end
section
variable {K:Frag}{X:Cx}
theorem ER.putBw {A:Nat->List Addr}(e:ER K F0 H0 F H O M A)(i:Nat)(h:Rep K H0 d v): ER K F0 H0 F H (O.set i (some v)) (M.set i (some (.bw d))) A:=by
 refine⟨by simp[e.len],e.ext,λj t hj=>?_,λj d' hj=>?_,e.nod,e.dis,e.new⟩
 .by_cases z:j=i
  .subst z
   have hl0:j<M.length:=by
    have:=(List.getElem?_eq_some_iff.mp hj).1
    rwa[length_set]at this
   rw[getElem?_set_self hl0]at hj
   cases hj
  .rw [getElem?_set_ne (Ne.symm z)]at hj ⊢
   exact e.own j t hj
 .by_cases z:j=i
  .subst z
   have hl0:j<M.length:=by
    have:=(List.getElem?_eq_some_iff.mp hj).1
    rwa[length_set]at this
   rw[getElem?_set_self hl0]at hj
   cases hj
   exact⟨v,getElem?_set_self (by rw[e.len];exact hl0),h⟩
  .rw [getElem?_set_ne (Ne.symm z)]at hj ⊢
   exact e.bw j d' hj
theorem sO_compB (hl:SimB K tl El)(he:SimO K te Eo): SimO K (tComp (iList K tl) ix (gName 0) te) (dCompB El ix Eo):=λF0 H0 F H O M P Q e w q=>
 hl F0 H0 F H O M _ _ e w λd v F1 H1 p x1 r1=>by
  split at p
  case h_2=>exact p.elim
  rename_i ds
  obtain⟨aL,vsL,rfl,hq1,hq2⟩:=r1
  have hql:=hq2.length
  refine⟨aL,rfl,⟨vsL,hq1⟩,?_⟩
  intro L hL
  obtain⟨A,e⟩:=e.on x1
  obtain⟨W,w0,ws,wd⟩:=p
  have f1:Same F1 H1:=x1.fh
  refine⟨λi m O ys H=>m=ds.length-i/\i<=ds.length/\∃F M ts B,ER K F1 H1 F H O M (λ_=>[])/\W i M ts/\F L=none/\H L=some (.lst ys)/\RepOs K F H ts ys B/\(L::B).Nodup/\∀b∈B,H1 b=none/\F b=none,
   ⟨ds.length,rfl,zero_le _,F1,_,[],[],e.blk ix (Same.new hL),w0,f1.free hL,upd_same,⟨rfl,rfl⟩,by simp,λ_ h=>by cases h⟩,?_⟩
  rintro i m O2 ys H2 ⟨rfl,hil,F2,M2,ts,B,e2,w2,l1,l2,hr,nd,nw⟩
  have hqn:=e2.ext.hh.seq hq1
  by_cases hlt:i<ds.length
  .obtain ⟨d0,hd0⟩:∃d,ds[i]?=some d:=⟨_,getElem?_eq_getElem hlt⟩
   have hl:=hr.length
   refine .inr ⟨sz_lt (by have:=(ws i d0 M2 ts hd0 w2).1;lia),⟨vsL,vsL[i]'(by lia),hqn,getElem?_eq_getElem (by lia)⟩,λx H3 y=>?_⟩
   obtain⟨rfl,y⟩:=y
   obtain⟨d,hd,r3⟩:=hq2.get' (y vsL hqn)
   have x3:=Ext.refl e2.ext.fh
   have w4:=(ws i d M2 ts hd w2).2
   have e4':=e2.putBw 0 r3
   refine he F1 H1 F2 _ _ _ _ _ ⟨_,e4'⟩ w4 λr v F5 H5 p5 x5 n5=>?_
   have x25:=x3.trans x5
   have l5:=x25.hh _ _ l2
   have l5f:=x25.no L _ l1 l2 rfl
   refine⟨l5,ds.length-(i+1),by lia,rfl,hlt,F5,M2.set 0 (some (.bw d)),ts++[r],?_⟩
   obtain⟨C,c1,c2,c3⟩:=n5
   obtain⟨n1,n2⟩:=nodup_cons.mp nd
   have hLC:L∉C:=λz=>by
    have q:=(c3 L z).1
    rw[x3.hh _ _ l2]at q;cases q
   have hBC:∀b,b∈B->b∉C:=λb hb z=>by
    obtain⟨xs,q,himm⟩:=hr.isl b hb
    have:=(c3 b z).1
    rw[x3.hh _ _ q]at this;cases this
   have e5:=e4'.on x5
   refine⟨B++C,⟨e5.len,⟨e5.ext.ff,λb o h=>?_,λb o h=>?_,e5.ext.no⟩,λj t hj=>?_,e5.bw,e5.nod,e5.dis,λ_ _ h=>by cases h⟩,p5,l5f,upd_same,?_,?_,λb hb=>?_⟩
   .exact upd_off (λz=>by rw[z,hL]at h;cases h) (e5.ext.hh _ _ h)
   .exact upd_off (λz=>by rw[z,l5f]at h;cases h) (e5.ext.fh _ _ h)
   .obtain ⟨u,h1,h2⟩:=e5.own j t hj
    exact⟨u,h1,h2.frame (Same.refl _) λ_ z=>by cases z⟩
   .exact RepOs.append (hr.frame x25.ff λb hb xs z=>upd_off (λq=>n1 (by rw[<- q];exact hb)) (x25.hh _ _ z)) (RepOs.one (c1.frame (Same.refl _) λb hb xs z=>upd_off (λq=>hLC (by rw[<- q];exact hb)) z))
   .refine nodup_cons.mpr ⟨λz=>?_,nodup_append.mpr ⟨n2,c2,λx hx y hy z=>by subst z;exact hBC x hx hy⟩⟩
    rcases mem_append.mp z with z |z
    .exact n1 z
    .exact hLC z
   .rcases mem_append.mp hb with z |z
    .obtain ⟨xs,qq,himm⟩:=hr.isl b z
     exact⟨(nw b z).1,x25.no b _ (nw b z).2 qq himm⟩
    .exact ⟨(e2.ext.hh.trans x3.hh).free (c3 b z).1,(c3 b z).2⟩
  .have hi':i=ds.length:=by lia
   subst hi'
   refine .inl ⟨⟨vsL,hqn,by lia⟩,q _ _ F2 H2 (wd _ _ w2) (x1.trans e2.ext) ⟨L::B,⟨L,ys,B,rfl,rfl,l2,hr⟩,nd,λb hb=>?_⟩⟩
   rcases mem_cons.mp hb with rfl |z
   .exact ⟨x1.hh.free hL,l1⟩
   .exact ⟨x1.hh.free (nw b z).1,(nw b z).2⟩
def rAllB (K:Frag):List V->Hp->VK->Prop:=λxs H Q=>∃(l:Addr) (bs:List Bool),xs=[.ref l]/\SqL K H l (bs.map V.bl)/\Q (.bl (bs.all id)) H
theorem bools_get:∀{bs:List Bool} {us:List Value},Vals (bs.map V.bl) us->∀{i:Nat} {v:Value},us[i]?=some v->∃b,bs[i]?=some b/\v = .bool b
 | [],_,.nil,i,v,e=>by simp at e
 |b::bs,u::us,.cons r t,0,v,e=>by
  simp at e
  subst e
  exact⟨b,rfl,r⟩
 |b::bs,u::us,.cons r t,i+1,v,e=>by
  obtain⟨b',h1,h2⟩:=bools_get t e
  exact⟨b',h1,h2⟩
theorem call_allB (hc:X.calm=true): CallR X (.builtin "all") (rAllB X.K):=by
 intro pins s O H xs us Q I r h
 obtain⟨l,bs,rfl,hq,q⟩:=h
 obtain⟨u,rfl,ru⟩:=vals1 r
 cases ru
 obtain⟨its,rv,pl,hz⟩:=I.list hq
 have hl:=pl.isList
 have hn:=rv.length
 rw[length_map]at hn
 have hlt:l<s.heap.objs.size:=by obtain⟨_,e,_⟩:=hl;exact lt_size e
 refine call_all_walk (wpAny_pyIter_list hl ?_)
 refine⟨s.heap.objs.size,[s.heap.objs.size,l],[s.heap.objs.size],its.toArray.size,_,_,λi=>(bs[i]?).getD true,rfl,Walks.list (A:=X.A.in1) (I.ok.hd hc) _ l (ne_of_lt hlt) its.toArray,
  ⟨⟨_,get?_push_size _ rfl,rfl,rfl⟩,hl.push _⟩,λi v s' Q' E' hP hQ=>?_,λh' tk hk=>?_⟩
 .obtain ⟨b,e,rfl⟩:=bools_get rv (by simpa using hP)
  simp only[e]at hQ
  exact wpAny_truthy_bool hQ
 .have e:((List.range its.toArray.size).all λi=>(bs[i]?).getD true)=bs.all id:=by
   rw[size_toArray,<- hn];exact LSm.range_all bs
  rw[e]
  exact⟨.bl _,H,I.kept (t':=tk) (LSm.kept_iter hk),rfl,q⟩
theorem reps_bools:∀{bs:List Bool} {vs:List V},Reps K F (bs.map D.bl) vs->vs=bs.map V.bl
 | [],vs,h=>h
 |b::bs,vs,h=>by
  obtain⟨v,r,rfl,h1,h2⟩:=h
  rw[show v=V.bl b from h1,reps_bools h2];rfl
theorem cS_all:CbS K (rAllB K) allD:=λF H ds vs P Q s rs w q=>by
 unfold allD at w
 split at w
 .obtain ⟨bs,rfl,w⟩:=w
  obtain⟨v,rfl,p,us,rfl,h1,h2⟩:=reps1 rs
  have e:=reps_bools h2
  subst e
  exact⟨p,bs,rfl,h1,q _ _ F H w (Ext.refl s) rfl⟩
 .exact w.elim
theorem ixN_lt (h:ixN n k=some j): j<n:=by
 unfold ixN at h
 split at h
 .split at h
  .cases h;lia
  .cases h
 .split at h
  .cases h;lia
  .cases h
theorem sS_put2 (h:SimF K te E)(hk:SimB K tk Ek)(hm:SimB K tm Em): SimS K (tAsg te (gSub (tOp (rIxL K) (tVar i) tk) tm rSetL)) (sPut2 i Ek Em E):=λF0 H0 F H O M De En e l w=>by
 refine h F0 H0 F H O M _ _ e w λd u F1 H1 p x1 rd=>?_
 obtain⟨A,e⟩:=e
 split at p
 .rename_i ts hs
  have e1:=e.on x1
  obtain⟨v,hv,a,vs,B,rfl,eA,ha,hB⟩:=e1.own i _ hs
  refine⟨_,hv,?_⟩
  refine hk F0 H0 F1 H1 O M _ _ ⟨A,e1⟩ p λk kv F2 H2 p2 x2 r2=>?_
  split at p2
  .rename_i k
   obtain⟨j,us,hj,hu,p2⟩:=p2
   have e2:=e1.on x2
   have ha2:=x2.hh _ _ ha
   have hB2:RepOs K F2 H2 ts vs B:=hB.frame x2.ff λb _ xs z=>x2.hh _ _ z
   have hlv:=hB2.length
   obtain⟨v0,A1,B0,A2,f1,rfl,f3,f4⟩:=hB2.focus hu
   obtain⟨c,ws,C0,rfl,rfl,hc,hws⟩:=f3
   have at1:atI vs k=some (.ref c):=by
    unfold atI
    rw[<- hlv,hj];exact f1
   refine⟨a,vs,k,.ref c,rfl,r2,SqL.of ha2,at1,?_⟩
   refine hm F0 H0 F2 H2 O M _ _ ⟨A,e2⟩ p2 λm mv F3 H3 p3 x3 r3=>?_
   split at p3
   .rename_i m
    obtain⟨q,hq,p3⟩:=p3
    have e3:=e2.on x3
    have hlw:=hws.length
    refine⟨c,ws,m,q,rfl,r3,x3.hh _ _ hc,by rw[<- hlw];exact hq,?_⟩
    have hql:=ixN_lt hq
    have hws3:RepOs K F3 H3 us ws C0:=hws.frame x3.ff λb _ xs z=>x3.hh _ _ z
    obtain⟨w0,C1,D0,C2,g1,rfl,g3,g4⟩:=hws3.focus (getElem?_eq_getElem hql)
    have hnd:=e.nod i
    rw[eA]at hnd
    have hA:A i=a::(A1++(c::(C1++(D0++C2))++A2)):=eA
    obtain⟨n1,n2⟩:=nodup_cons.mp hnd
    obtain⟨m1,m2,m3⟩:=nodup_append.mp n2
    obtain⟨q1,q2,q3⟩:=nodup_append.mp m2
    obtain⟨s1,s2⟩:=nodup_cons.mp q1
    have hac:a≠c:=λz=>n1 (by rw[z];simp)
    have off:∀b∈A1++A2,b≠c:=λb hb z=>by
     subst z
     rcases mem_append.mp hb with y |y
     .exact m3 b y b (by simp) rfl
     .exact q3 b (by simp) b y rfl
    have offC:∀b∈C1++C2,b≠c:=λb hb z=>by
     subst z
     apply s1
     rcases mem_append.mp hb with y |y<;>simp[y]
    have rd3:Rep K F3 d u:=rd.mono (x2.ff.trans x3.ff)
    have g4':=g4 F3 (upd H3 c (.lst (ws.set q u))) (.fz d) u [] (Same.refl _) (λb hb xs z=>upd_off (offC b hb) z) ⟨rfl,rd3⟩
    have f4':=f4 F3 (upd H3 c (.lst (ws.set q u))) (.nl (us.set q (.fz d))) (.ref c) (c::(C1++([]++C2))) x3.ff (λb hb xs z=>upd_off (off b hb) (x3.hh _ _ z)) ⟨c,ws.set q u,_,rfl,rfl,upd_same,g4'⟩
    rw[set_self_of f1]at f4'
    have sub:(a::(A1++(c::(C1++([]++C2))++A2))).Sublist (A i):=by
     rw[hA]
     exact List.Sublist.cons₂ _ (List.Sublist.append (List.Sublist.refl _) (List.Sublist.append (List.Sublist.cons₂ _ (List.Sublist.append (List.Sublist.refl _) (List.Sublist.append (List.nil_sublist _) (List.Sublist.refl _)))) (List.Sublist.refl _)))
    refine l.nx F3 _ O _ (e3.change i hv (t':=.nl (ts.set j (.nl (us.set q (.fz d))))) (B:=a::(A1++(c::(C1++([]++C2))++A2))) ⟨a,vs,_,rfl,rfl,upd_off hac (x3.hh _ _ ha2),f4'⟩ ?_ ?_ ?_ ?_) p3
    .exact (e.nod i).sublist sub
    .intro b hb
     exact⟨(e3.new i b (sub.subset hb)).1,(e3.new i b (sub.subset hb)).2.1⟩
    .intro j' hj' b hb z
     exact e.dis j' i b hj' z (sub.subset hb)
    .intro b o hb q'
     exact upd_off (λz=>hb (by rw[hA,z];simp)) q'
   .exact p3.elim
  .exact p2.elim
 .exact p.elim
def rStep (K:Frag):V->Int->Hp->VK->Prop:=λx c H Q=>∃a xs,x = .ref a/\SqL K H a xs/\0<c/\∀p H',H p=none->Same H H'->H' p=some (.lst (stepG xs c))->Q (.ref p) H'
def tStep (r:V->Int->Hp->VK->Prop)(te tc:TE):TE:=λO H Q=>te O H λx H1=>tc O H1 λc H2=>∃i,c = .int i/\r x i H2 Q
theorem vals_pick (h:Vals xs us): ∀(js:List Nat),Vals (js.filterMap (xs[·]?)) (js.filterMap (us.toArray[·]?))
 | []=>.nil
 |j :: js=>by
  have ih:=vals_pick h js
  by_cases hj:j<xs.length
  .obtain ⟨u,hu,ru⟩:=h.get (i:=j) (x:=xs[j]) (by simp)
   have e1:xs[j]?=some xs[j]:=by simp
   have e2:us.toArray[j]?=some u:=by simpa using hu
   rw[filterMap_cons_some e1,filterMap_cons_some e2]
   exact .cons ru ih
  .have hj':¬ j<us.length:=by rw[<- h.length];exact hj
   have e1:xs[j]?=none:=by simp;lia
   have e2:us.toArray[j]?=none:=by simp;lia
   rw[List.filterMap_cons_none e1,List.filterMap_cons_none e2]
   exact ih
theorem pe_step (he:PE X e te)(hc:PE X c tc): PE X (.Subscript e (.Slice none none (some c) p2) pos) (tStep (rStep X.K) te tc):=by
 intro pins s O H Q I h
 refine Subscript_ (thn (he pins s O H _ I h) λv s1 ⟨x,H1,I1,r1,q1⟩=>?_)
 refine wpAny_Slice ?_
 refine wpAny_pure ?_
 refine wpAny_pure ?_
 refine thn (hc pins s1 O H1 _ I1 q1) λvc s3 ⟨y,H3,I3,rc,i,ey,q3⟩=>?_
 subst ey
 obtain⟨a,xs,rfl,hq,hi,q⟩:=q3
 obtain⟨tk,rfl⟩:=rc
 cases r1
 have I4:Inv X pins O H3 {s3 with heap:=s3.heap.push {cls:=.type "slice",data:=.fields #[.none,.none,.int i tk]}}:=I3.kept (t':=s3.toks) λb ob q=>get?_push_of_some _ q
 obtain⟨its,rv,pl,hz⟩:=I4.list hq
 have hn:=rv.length
 have hbd:sliceBounds none none (some i) its.toArray.size=(0,(xs.length:Int),i):=by
  unfold sliceBounds
  simp[hi,hn]
 have hpk:slicePick its.toArray none none (some i)=((sliceRange 0 xs.length i).filterMap (its.toArray[·]?)).toArray:=by
  unfold slicePick
  rw[hbd]
 refine tail_any (T := "list") (ops:=[.ref a,.ref s3.heap.objs.size]) pl.isList.typeIs slot_list_getitem.lookup ?_ (by with_unfolding_all rfl)
 refine wpAny_getItem_list_slice pl.isList (Heap.IsSliceOf.new ..) .none .none (.int i tk) (by intro z;injection z with z;lia) ?_ (by rw[size_toArray]<;>lia)
 rw[hpk]
 have hle:(stepG xs i).length<=xs.length:=by
  have h1:=slicePick_size_le its.toArray none none (some i)
  rw[hpk,size_toArray,size_toArray]at h1
  have h2:=(vals_pick rv (sliceRange 0 xs.length i)).length
  show ((sliceRange 0 xs.length i).filterMap (xs[·]?)).length<=_
  lia
 have hf:=I4.hok.fresh (Nat.le_refl _)
 refine⟨.ref _,_,I4.laid (t':=s3.toks) (o:=.lst (stepG xs i)) (λb ob q=>get?_push_of_some _ q) (Nat.le_refl _) ?_,rfl,q _ _ hf (Same.new hf) upd_same⟩
 exact⟨Nat.le_trans hle hz,_,0,vals_pick rv (sliceRange 0 xs.length i),get?_push_size _ rfl⟩
theorem Reps.pick (h:Reps K F ds vs): ∀(js:List Nat),Reps K F (js.filterMap (ds[·]?)) (js.filterMap (vs[·]?))
 | []=>rfl
 |j :: js=>by
  have ih:=Reps.pick h js
  have hl:=h.length
  by_cases hj:j<ds.length
  .obtain ⟨v,hv,rv⟩:=h.get (i:=j) (d:=ds[j]) (by simp)
   have e1:ds[j]?=some ds[j]:=by simp
   rw[filterMap_cons_some e1,filterMap_cons_some hv]
   exact⟨v,_,rfl,rv,ih⟩
  .have e1:ds[j]?=none:=by simp;lia
   have e2:vs[j]?=none:=by simp;lia
   rw[List.filterMap_cons_none e1,List.filterMap_cons_none e2]
   exact ih
theorem Reps.step (h:Reps K F ds vs)(c:Int): Reps K F (stepG ds c) (stepG vs c):=by
 unfold stepG
 rw[h.length]
 exact h.pick _
theorem sO_slSt (ha:SimF K ta Ea)(hc:SimB K tc Ec): SimO K (tStep (rStep K) ta tc) (dSlSt Ea Ec):=λF0 H0 F H O M P Q e w q=>
 ha F0 H0 F H O M _ _ e w λx v F1 H1 w1 x1 r1=>hc F0 H0 F1 H1 O M _ _ (e.on x1) w1 λc u F2 H2 w2 x2 r2=>by
  have x12:=x1.trans x2
  split at w2
  .obtain ⟨c0,w2⟩:=w2
   obtain⟨p,vs,rfl,h1,h2⟩:=r1.mono x2.ff
   exact⟨_,r2,p,vs,rfl,x2.fh.seq h1,c0,λl H' l0 sm l1=>q _ _ F2 H' w2 (x12.trans (Ext.grow x2.fh sm)) (RepN.list (x12.hh.free l0) (x2.fh.free l0) l1 (h2.step _))⟩
  .exact w2.elim
structure DefAtD (K:Frag) (mg:Str->Option Value) (x:Str) (st:Stmt) (f:Addr) (fd:FuncData) (T:Addr) (items:Array Value):Prop where
 ex:∃(oc:Value) (od:Option Addr) (kV doc pm:Value) (an:Option Addr) (cdv ct:Value) (osl:Array (Option Value)),
  fd=fnOf x x (defArgs st) (defBody st) (defScope st) (.ref T) kV doc pm an cdv ct/\K.lookup f=some ⟨oc,od,.func fd,osl⟩/\codeIn K cdv x=true
 tup:∃o n,K.lookup T=some o/\o.data = .seq items n
 kp:keepIn K (.ref f)=true
 here:mg x=some (.ref f)
structure CalD (P:Program) (w:World) (K:Frag) (mg:Str->Option Value) (base:Heap) (x:Str) (k:Nat) (ps:List Str) (sp:Sp) (dvs:List V):Prop where
 ex:∃f fd ds,FnOk P w K mg base CX0 k f fd ps sp/\mg x=some (.ref f)/\keepIn K (.ref f)=true/\Binds K fd ps []/\Binds K fd ps ds/\Vals dvs ds
theorem CalD.cal {mg:Str->Option Value}(C:CalD P w K mg base x k ps sp dvs): Cal P w K mg base x k ps sp:=by
 obtain⟨f,fd,ds,a,b,c,d,_⟩:=C.ex
 exact⟨f,fd,a,b,c,d⟩
theorem pe_calD {x:Str}{k:Nat}{ps:List Str}{sp:Sp}{dvs:List V}{e:Expr}{es:List Expr}{t:TA}{p pos:Pos}(C:CalD X.prog X.w X.K X.mg X.base x k ps sp dvs)(hr:Room k X.A)(hg:Gl X x)(ha:PA X (e::es) t)
  (hdb:(x==("__debug__":Str))=false:=by decide) (he:starEach (e::es) X.env=(false,eval e X.env)::starEach es X.env:=by rfl) (hpl:(backTo pos (starEach es X.env)).any (·.1)=false:=by rfl):
  PE X (.Call (.Name x p) (e::es) [] pos) (tCall sp dvs E0 t):=by
 obtain⟨f,fd,ds,F,hm,hk,_,hb,hv⟩:=C.ex
 exact pe_call F hr hg hm hk hb hv pass0 ha hdb he hpl
theorem CalVD.of {P:Program}{w:World}{mg:Str->Option Value}{base:Heap}{x:Str}{st:Stmt}{f T:Addr}{items:Array Value}{fd:FuncData}{N ps:List Str}{k n:Nat}{sp:DSp}{ds:List Value}{dvs:List V}(Df:DefAtD K mg x st f fd T items)(S:FnScope N ps (defScope st))
  (hb:∀(kV doc pm:Value) (an:Option Addr) (cdv ct:Value) (us:List Value),us.length=ps.length->∃k,bindArgs (fnOf x x (defArgs st) (defBody st) (defScope st) (.ref T) kV doc pm an cdv ct) ⟨us,[]⟩=seqItems? (.ref T) >>= k/\k (some items)=pure (ps.zip us))
  (hb2:∀(kV doc pm:Value) (an:Option Addr) (cdv ct:Value) (us:List Value),(us++ds).length=ps.length->∃k,bindArgs (fnOf x x (defArgs st) (defBody st) (defScope st) (.ref T) kV doc pm an cdv ct) ⟨us,[]⟩=seqItems? (.ref T) >>= k/\k (some items)=pure (ps.zip (us++ds)))
  (hv:Vals dvs ds) (hn:n=ps.length)
  (hbody:∀(cdv:Value) (A:Around) (outer:List Env) (s:Shared) (H:Hp) (E:XK),Room k (A.deeper (envOfC x (defScope st) s.heap.objs.size f cdv))->
   ∃t T,PSs (cxOf CX0 P w K mg base N x (defScope st) f cdv A outer s H E).nox (defBody st) t/\SimS K t T/\∀ds Pr,sp ds Pr->T {nx:=λ_=>Pr (.fz .non),rt:=Pr} (startV N ds)):CalD P w K mg base x (k+1) ps (spV K n sp) dvs:=by
 obtain⟨oc,od,kV,doc,pm,an,cdv,ct,osl,rfl,lk,hcd⟩:=Df.ex
 obtain⟨o,m,ht,hs⟩:=Df.tup
 refine⟨f,_,ds,fn_of lk hcd S (λvs H Q E h=>by rw[<- hn];exact h.1) (λA outer s H vs Q E hr h=>?_),Df.here,Df.kp,λs us KX hl=>?_,λs us KX hl=>?_,hv⟩
 .obtain ⟨_,F,ds',Pr,hs',hr',hsp,hq⟩:=h
  obtain⟨t,T',h1,h2,h3⟩:=hbody cdv A outer s H E hr
  refine⟨t,h1.nox,h2 F H F H (start N vs) (startV N ds') {nx:=λ_=>Pr (.fz .non),rt:=Pr} _ ⟨_,startV_er hs' hr'⟩ ⟨λF' H' O M e p=>?_,λ_ _ _ _ _ z=>z.elim,λ_ _ _ _ _ z=>z.elim,λF' H' r v x n p=>hq r v F' H' p x n⟩ (h3 ds' Pr hsp)⟩
  exact hq _ _ F' H' p e.ext (.fz rfl)
 .rw [append_nil]at hl ⊢
  obtain⟨k',e1,e2⟩:=hb kV doc pm an cdv ct us hl
  exact binds_K KX rfl ht hs e1 e2
 .obtain ⟨k',e1,e2⟩:=hb2 kV doc pm an cdv ct us hl
  exact binds_K KX rfl ht hs e1 e2
theorem sO_callD {n:Nat}{sp:DSp}{a:TA}{As:DA}{dds:List D}{dvs:List V}(hd:∀F,Reps K F dds dvs)(ha:SimAF K a As):SimO K (tCall (spV K n sp) dvs E0 a) (dCallD n sp dds As):=λF0 H0 F H O M P Q e w q=>ha F0 H0 F H O M _ _ e w λds vs F1 H1 w1 x1 r1=>by
 have r2:=r1.append (hd F1)
 exact⟨by rw[<- r2.length];exact w1.1,F1,ds++dds,P,x1.fh,r2,w1.2,λr v F' H' p x' r'=>q r v F' H' p (x1.trans x') (r'.old x1.hh)⟩
end
def dRngD (As:DA):DA:=λM P=>As M λds=>match ds with
 | [.int i,.int j,.int c]=>c = -1/\(-(2^61)<=i/\i<2^61/\-(2^61)<=j/\j<2^61)/\P (rng i (-1) (i-j).toNat)
 |_=>False
section
variable {X:Cx}{K:Frag}{tg:Expr}
theorem rng_down {i j:Int}:Builtin.Range.rangeSize i j (-1)=((i-j).toNat:Int):=by
 unfold Builtin.Range.rangeSize
 rw[if_neg (by decide)]
 split
 .rw [show (-(-1):Int)=1 by decide];lia
 .lia
theorem small_down {a b:Int}(h1 : -(2^61)<=a)(h2:a<2^61)(h3 : -(2^61)<=b)(h4:b<2^61):Builtin.Range.small a b (-1)=true:=by
 unfold Builtin.Range.small
 rw[rng_down]
 simp only[Builtin.Range.rangeFitsLong,and_eq_true,or_eq_true,decide_eq_true_eq,show ¬ ((-1:Int) > 0) from by decide,if_false]
 omega
def iRngD (ta:TA):TI:=λO H R=>ta O H λvs H1=>∃i j:Int,vs=[.int i,.int j,.int (-1)]/\(-(2^61)<=i/\i<2^61/\-(2^61)<=j/\j<2^61)/\R (Itrs i (-1) (i-j).toNat) H1
theorem pi_rangeD {a b d:Expr}{ta:TA}{p pos:Pos}(hg:Gl X "range")(hm:X.mg "range"=none)(ha:PA X [a,b,d] ta)(hs:starEach [a,b,d] X.env=(false,eval a X.env)::starEach [b,d] X.env:=by rfl)
  (hpl:(backTo pos (starEach [b,d] X.env)).any (·.1)=false:=by rfl):
  PI X tg (.Call (.Name "range" p) [a,b,d] [] pos) (iRngD ta):=by
 intro pins s O H R I h
 refine Call_ (ld_blt I hg hm boot_range (PyProof.Rows.callWith_type1 (thn (ha pos pins s O H _ I h) λus s1 ⟨vs,H1,I1,r1,q1⟩=>?_) hs hpl))
 obtain⟨i,j,e,⟨q1,q2,q3,q4⟩,q⟩:=q1
 subst e
 cases r1 with
 |cons r rr=>
  cases rr with
  |cons r' rr=>
   cases rr with
   |cons r'' rr=>
    cases rr
    obtain⟨t,rfl⟩:=r
    obtain⟨t',rfl⟩:=r'
    obtain⟨t'',rfl⟩:=r''
    refine PySem.call_range_3 (by lia) ?_ (.inl (PyProof.noPylong_small (by decide)))
    refine wpAny_pyIter_range (IsRange.new ..) (small_down q1 q2 q3 q4) ?_
    have I2:Inv X pins O H1 {s1 with heap:=s1.heap.push {cls:=.type "range",data:=.fields #[.int i t,.int j t',.int (-1) t'']},toks:=s1.toks}:=I1.kept λb o e=>get?_push_of_some _ e
    refine⟨(s1.heap.push {cls:=.type "range",data:=.fields #[.int i t,.int j t',.int (-1) t'']}).objs.size,[(s1.heap.push {cls:=.type "range",data:=.fields #[.int i t,.int j t',.int (-1) t'']}).objs.size],_,_,H1,rfl,
     I2.kept (t':=s1.toks) λb o e=>get?_push_of_some _ e,turn_rangeS _ i (-1) (i-j).toNat,?_,λb hb=>?_,q⟩
    .have e1:i+((0:Nat):Int)*(-1)=i:=by simp
     have e2:(((i-j).toNat:Nat):Int)-((0:Nat):Int)=Builtin.Range.rangeSize i j (-1):=by rw[rng_down];simp
     rw[e1,e2]
     exact get?_push_size _ rfl
    .have e:b=(s1.heap.push {cls:=.type "range",data:=.fields #[.int i t,.int j t',.int (-1) t'']}).objs.size:=by simpa using hb
     subst e
     exact I2.fpOk (Nat.le_refl _) (I2.hok.fresh (Nat.le_refl _))
theorem sI_rngD {a:TA}{As:DA}(h:SimAB K a As):SimI K (iRngD a) (dRngD As):=λF0 H0 F H O M P R e w q=>h F0 H0 F H O M _ _ e w λds vs F' H' p x r=>by
 split at p
 .obtain ⟨v,u,z,rfl,r1,r2,r3⟩:=reps3 r
  obtain⟨rfl,p1,p2⟩:=p
  exact⟨_,_,by rw[show v=_ from r1,show u=_ from r2,show z=_ from r3],p1,q _ _ F' H' p2 x itR_itrs⟩
 .exact p.elim
end
theorem CmpW.mapB {α:Type}{Eo:DO}{o:Option Sl}{rest:Dst}{P:OV->Prop}(xs:List α)(g:α->D)(f:α->OV)(hn:xs.length<=1000000)
  (h:∀x∈xs,∀Q:OV->Prop,Q (f x)->Eo (some (.bw (g x))::rest) Q) (k:P (.nl (xs.map f))):CmpW (gB 0) Eo (xs.map g) (o::rest) P:=by
 refine⟨λi M ts=>∃o,M=o::rest/\ts=(xs.take i).map f,⟨o,rfl,rfl⟩,?_,?_⟩
 .rintro i d M ts hd ⟨o,rfl,rfl⟩
  obtain⟨x,hx,rfl⟩:=mget hd
  obtain⟨hi,e⟩:=List.getElem?_eq_some_iff.mp hx
  refine⟨by rw[length_map,length_take];lia,h x (mem_of_getElem? hx) _ ⟨_,rfl,?_⟩⟩
  rw[take_succ_eq_append_getElem hi,e,map_append]
  rfl
 .rintro M ts ⟨o,rfl,rfl⟩
  rw[length_map,take_length]
  exact k
section
variable {K:Frag}{X:Cx}
end
end L2
namespace Att
open PySem PySem.W PySem.Calls PyProof.Rows
end Att
namespace L2
open PySem PySem.Spec PyProof.Rows
section
variable {X:Cx}{K:Frag}{mg:Str->Option Value}
end
section
variable {X:Cx}{K:Frag}
end
section
variable {K:Frag}{mg:Str->Option Value}
end
section
variable {X:Cx}{K:Frag}
theorem vals_of_items {a c:Int}{acc:Array Value}{n:Nat}(h:ItemsOf (λi v=>∃t,v = .int (a+i*c) t) acc n):Vals ((List.range n).map λ(k:Nat)=>V.int (a+k*c)) acc.toList:=by
 obtain⟨h1,h2⟩:=h
 have go:∀(us:List Value) (k:Nat),(∀(j:Nat) v,us[j]?=some v->∃t,v = .int (a+((k+j:Nat):Int)*c) t)->Vals ((List.range us.length).map λj=>V.int (a+((k+j:Nat):Int)*c)) us:=by
  intro us
  induction us with
  |nil=>intro k _;exact .nil
  |cons u us ih=>
   intro k hk
   rw[length_cons,List.range_succ_eq_map,map_cons,map_map]
   refine .cons (hk 0 u rfl) ?_
   have:=ih (k+1) λj v hv=>by
    obtain⟨t,e⟩:=hk (j+1) v hv
    exact⟨t,by rw[e,show k+(j+1)=k+1+j by lia]⟩
   have e:((λj=>V.int (a+((k+j:Nat):Int)*c))∘Nat.succ)=λj=>V.int (a+((k+1+j:Nat):Int)*c):=by
    funext j
    simp only[Function.comp]
    rw[show k+(j+1)=k+1+j by lia]
   rw[e];exact this
 have:=go acc.toList 0 λj v hv=>by
  rw[Nat.zero_add]
  exact h2 j v (by simpa using hv)
 simp only[Nat.zero_add,length_toList,h1]at this
 exact this
end
section
variable {X:Cx}{K:Frag}
end
def dZip (As:DA):DA:=λM P=>As M λds=>match ds with
 | [.lst xs,.lst ys]=>P ((xs.zip ys).map λp=>D.tup [p.1,p.2])
 |_=>False
section
variable {X:Cx}{K:Frag}{mg:Str->Option Value}
theorem Inv.turnedL {pins:List (Addr×Obj)}{O:St}{H:Hp}{s:Shared}{h':Heap}{t':Nat}{L:List Addr}(I:Inv X pins O H s)(k:∀b o,b∉L->s.heap.get? b=some o->h'.get? b=some o)(f:∀b∈L,FpOk X pins H b):Inv X pins O H {s with heap:=h',toks:=t'}:=by
 have nn:∀b u,H b=some u->b∉L:=λb u e z=>by
  obtain⟨p0,_⟩:=f b z
  rw[p0]at e;cases e
 refine I.step (g':=s.gens) (d':=s.drawn) (λb hb=>?_) (λb o _ _ hc e _=>k b o hc e) (λb o _ _ hc e _=>⟨o.slots,k b o hc e⟩) (λ_ _ _ _ n=>n)
  (λb o hc e=>⟨o,k b o hc e⟩) (λ_ _ e=>e) (λ_ _ _ e=>e) (λb ps e=>⟨#[],by rw[e];simp⟩) (λm hm=>?_) (λb u e=>?_) I.bare
 .obtain ⟨p0,p1,p2,p3,p4,p5⟩:=f b hb
  exact⟨p3,p1,p4,p5⟩
 .obtain ⟨o,es,ep,ho,r⟩:=hm
  refine⟨o,es,ep,k _ o (λz=>?_) ho,r⟩
  obtain⟨p0,p1,_⟩:=f _ z
  exact p1 rfl
 .refine (I.hok b u e).stay (λc v hc q=>k c v ?_ q) (λ_ q=>q) λ_ _ q _=>q
  rcases hc with z |z
  .rw [z];exact nn b u e
  .exact nn c _ z
def Itz (K:Frag)(a1 a2:Addr)(xs ys:List V):It:=
 ⟨λi H=>SqL K H a1 xs/\SqL K H a2 ys/\i<xs.length/\i<ys.length,λi H x H'=>∃p y1 y2,x = .ref p/\H p=none/\Same H H'/\xs[i]?=some y1/\ys[i]?=some y2/\H' p=some (.tup [y1,y2]),λi H=>SqL K H a1 xs/\SqL K H a2 ys/\(xs.length<=i∨ys.length<=i)⟩
theorem ne_list {h:Heap}{l z:Addr}{xs:Array Value}{o:Obj}(hl:h.IsList l xs)(e:h.get? z=some o)(hc:o.cls≠.type "list"):l≠z:=λq=>by
 subst q
 obtain⟨o',e1,e2,_⟩:=hl
 rw[e]at e1
 cases e1
 exact hc e2
structure Zip5 (z TI TO i1 i2:Addr):Prop where
 TIz:TI≠z
 TOz:TO≠z
 i1z:i1≠z
 i2z:i2≠z
 TITO:TI≠TO
 TIi1:TI≠i1
 TIi2:TI≠i2
 TOi1:TO≠i1
 TOi2:TO≠i2
 i12:i1≠i2
theorem zip5_at (n:Nat):Zip5 (n+4) (n+2) (n+3) n (n+1):=
 ⟨λq=>by have q:(n+2:Nat)=n+4:=q;lia,λq=>by have q:(n+3:Nat)=n+4:=q;lia,λq=>by have q:(n+0:Nat)=n+4:=q;lia,λq=>by have q:(n+1:Nat)=n+4:=q;lia,λq=>by have q:(n+2:Nat)=n+3:=q;lia,λq=>by have q:(n+2:Nat)=n+0:=q;lia,λq=>by have q:(n+2:Nat)=n+1:=q;lia,λq=>by have q:(n+3:Nat)=n+0:=q;lia,λq=>by have q:(n+3:Nat)=n+1:=q;lia,λq=>by have q:(n+0:Nat)=n+1:=q;lia⟩
theorem zip_apart {h:Heap}{z TI TO i1 i2 l1 l2:Addr}{xs ys:Array Value}{a b:Value}{k1 k2:Nat}{c1 c2:Addr}(D:Zip5 z TI TO i1 i2)(hz:IsZip h z TI TO .none)(hTO:IsPair h TO a b)(h1:h.IsListIter i1 c1 k1)(h2:h.IsListIter i2 c2 k2)(hl1:h.IsList l1 xs)(hl2:h.IsList l2 ys):ZipApart z TI TO i1 i2 l1 l2:=by
 obtain⟨o1,e1,q1,_⟩:=h1
 obtain⟨o2,e2,q2,_⟩:=h2
 exact⟨D.TIz,D.TOz,D.i1z,D.i2z,D.TITO,D.TIi1,D.TIi2,D.TOi1,D.TOi2,D.i12,ne_list hl1 hz (by simp),ne_list hl1 hTO (by simp),ne_list hl1 e1 (by rw[q1];simp),ne_list hl1 e2 (by rw[q2];simp),
  ne_list hl2 hz (by simp),ne_list hl2 hTO (by simp),ne_list hl2 e1 (by rw[q1];simp),ne_list hl2 e2 (by rw[q2];simp)⟩
theorem turn_zip {P:Program}{w:World}{K:Frag}{elts:List Expr}{x1:Nat}{tpos:Pos}(a1 a2 z TI TO i1 i2:Addr)(xs ys:List V)(D:Zip5 z TI TO i1 i2):
  Turn P w K (.Tuple elts x1 tpos) (Itz K a1 a2 xs ys) [z,TI,TO,i1,i2] z (λi h=>IsZip h z TI TO .none/\IsPair h TI (.ref i1) (.ref i2)/\(∃a b,IsPair h TO a b)/\h.IsListIter i1 a1 i/\h.IsListIter i2 a2 i) where
 mem:=by simp
 obj:=λi h st b hb=>by
  obtain⟨h1,h2,⟨a,b',h3⟩,⟨o4,q4,_,r4⟩,⟨o5,q5,_,r5⟩⟩:=st
  have hb':b=z∨b=TI∨b=TO∨b=i1∨b=i2:=by simpa using hb
  rcases hb' with q |q |q |q |q
  .subst q;exact⟨_,h1,λv q=>by cases q⟩
  .subst q;exact⟨_,h2,λv q=>by cases q⟩
  .subst q;exact⟨_,h3,λv q=>by cases q⟩
  .subst q;exact⟨_,q4,λv q=>by rw[r4]at q;cases q⟩
  .subst q;exact⟨_,q5,λv q=>by rw[r5]at q;cases q⟩
 keep:=λi h h' st k=>by
  obtain⟨h1,h2,⟨a,b',h3⟩,h4,h5⟩:=st
  exact⟨k z (by simp) _ h1,k TI (by simp) _ h2,⟨a,b',k TO (by simp) _ h3⟩,h4.at λo q=>k i1 (by simp) o q,h5.at λo q=>k i2 (by simp) o q⟩
 item := by
  kj_on
  obtain⟨h1,h2,⟨a,b',h3⟩,h4,h5⟩:=st
  obtain⟨hq1,hq2,hi1,hi2⟩:=hg
  obtain⟨its1,rv1,p1,hz1⟩:=I.list hq1
  obtain⟨its2,rv2,p2,hz2⟩:=I.list hq2
  obtain⟨u1,hu1,ru1⟩:=rv1.get (i:=i) (x:=xs[i]) (by simp)
  obtain⟨u2,hu2,ru2⟩:=rv2.get (i:=i) (x:=ys[i]) (by simp)
  refine wpAny_pyNext_zip_item (zip_apart D h1 h3 h4 h5 p1.isList p2.isList) h1 h2 h3 h4 h5 p1.isList p2.isList (by simpa using hu1) (by simpa using hu2) λh' g1 g2 g3 g4 g5 g6 g7=>?_
  refine⟨_,rfl,wpAny_letOwnedTupleGo_zip g1 λh'' k1 k2=>?_⟩
  have hf':=I.hok.fresh (Nat.le_refl _)
  have I0:Inv X pins O (upd H s.heap.objs.size (.tup [xs[i],ys[i]])) {s with heap:=s.heap.push {cls:=.type "tuple",data:=.seq #[u1,u2]},toks:=s.toks}:=
   I.laid (t':=s.toks) (o:=.tup [xs[i],ys[i]]) (λb ob q=>get?_push_of_some _ q) (Nat.le_refl _) ⟨sz_le (n:=2) (by decide),[u1,u2],.cons ru1 (.cons ru2 .nil),⟨_,get?_push_size _ rfl,rfl,_,rfl⟩⟩
  have old:∀b∈[z,TI,TO,i1,i2],b≠s.heap.objs.size:=λb hb q=>by
   have hb':b=z∨b=TI∨b=TO∨b=i1∨b=i2:=by simpa using hb
   have hlt:b<s.heap.objs.size:=by
    rcases hb' with y |y |y |y |y
    .rw [y];exact lt_size h1
    .rw [y];exact lt_size h2
    .rw [y];exact lt_size h3
    .obtain ⟨o,r1,_⟩:=h4
     rw[y];exact lt_size r1
    .obtain ⟨o,r1,_⟩:=h5
     rw[y];exact lt_size r1
   rw[q]at hlt
   exact lt_irrefl _ hlt
  have fe:∀b∈[z,TI,TO,i1,i2],FpOk X pins (upd H s.heap.objs.size (.tup [xs[i],ys[i]])) b:=λb hb=>by
   obtain⟨q0,q1,q2,q3,q4,q5⟩:=hf b hb
   refine⟨?_,q1,q2,q3,q4,q5⟩
   rw[upd_ne]
   .exact q0
   .exact old b hb
  have I1 : Inv X pins O (upd H s.heap.objs.size (.tup [xs[i],ys[i]])) {s with heap:=h'',toks:=s.toks}:=by
   have:=I0.turnedL (h':=h'') (t':=s.toks) (L:=[z,TO,i1,i2]) (λb o hb q=>?_) (λb hb=>fe b (by
    have hb':b=z∨b=TO∨b=i1∨b=i2:=by simpa using hb
    rcases hb' with y |y |y |y<;>simp[y]))
   .exact this
   .have bz:b≠z:=λy=>hb (by simp[y])
    have hb2:h'.get? b=some o:=by
     by_cases y:b=s.heap.objs.size
     .subst y
      rw[get?_push_size _ rfl]at q
      rw[<- q];exact g5
     .rw [Heap.get?_push_ne _ _ _ y]at q
      exact g7 b o bz (λy=>hb (by simp[y])) (λy=>hb (by simp[y])) (λy=>hb (by simp[y])) q
    exact k2.extBut b o bz hb2
  have hTI':h'.get? TI=_:=g7 TI _ D.TIz D.TITO D.TIi1 D.TIi2 h2
  refine⟨.ref s.heap.objs.size,_,I1,rfl,⟨_,xs[i],ys[i],rfl,hf',Same.new hf',by simp,by simp,upd_same⟩,⟨k1,k2.extBut _ _ D.TIz hTI',⟨_,_,k2.extBut _ _ D.TOz g2⟩,g3.extBut k2.extBut D.i1z,g4.extBut k2.extBut D.i2z⟩,λb hb=>(fe b hb).1⟩
 done:=by
  kj_on
  obtain⟨h1,h2,⟨a,b',h3⟩,h4,h5⟩:=st
  obtain⟨hq1,hq2,hi⟩:=hg
  obtain⟨its1,rv1,p1,hz1⟩:=I.list hq1
  obtain⟨its2,rv2,p2,hz2⟩:=I.list hq2
  have hl1:=rv1.length
  have hl2:=rv2.length
  refine wpAny_pyNext_zip_end (I.ok.hd hc) (zip_apart D h1 h3 h4 h5 p1.isList p2.isList) h1 h2 h3 h4 h5 p1.isList p2.isList (by
   rcases hi with q |q
   .exact .inl (by simp;lia)
   .exact .inr (by simp;lia)) λh' eb=>⟨rfl,I.turnedL (t':=s.toks) (L:=[z,TO,i1,i2]) (λb o hb q=>eb b o (λy=>hb (by simp[y])) (λy=>hb (by simp[y])) (λy=>hb (by simp[y])) (λy=>hb (by simp[y])) q) (λb hb=>hf b (by
    have hb':b=z∨b=TO∨b=i1∨b=i2:=by simpa using hb
    rcases hb' with y |y |y |y<;>simp[y]))⟩
 self:=λ_ _ _ _ _ st h=>by
  obtain⟨h1,_⟩:=st
  exact wpAny_pyIter_zip h1 h
def iZip (K:Frag)(ta:TA):TI:=λO H R=>ta O H λvs H1=>∃a1 a2 xs ys,vs=[.ref a1,.ref a2]/\SqL K H1 a1 xs/\SqL K H1 a2 ys/\R (Itz K a1 a2 xs ys) H1
theorem pi_zip {elts:List Expr}{x1:Nat}{tpos:Pos}{l m:Expr}{ta:TA}{p pos:Pos}(hg:Gl X "zip")(hm:X.mg "zip"=none)(ha:PA X [l,m] ta)(hs:starEach [l,m] X.env=(false,eval l X.env)::starEach [m] X.env:=by rfl)(hp:(backTo pos (starEach [m] X.env)).any (·.1)=false:=by rfl):PI X (.Tuple elts x1 tpos) (.Call (.Name "zip" p) [l,m] [] pos) (iZip X.K ta):=by
 intro pins s O H R I h
 refine Call_ (ld_blt I hg hm PyProof.Rows.boot_zip (PyProof.Rows.callWith_type1 (thn (ha pos pins s O H _ I h) λus s1 ⟨vs,H1,I1,r1,q1⟩=>?_) hs hp))
 obtain⟨a1,a2,xs,ys,e,hq1,hq2,q⟩:=q1
 subst e
 obtain⟨u1,u2,rfl,ru1,ru2⟩:=vals2 r1
 cases ru1
 cases ru2
 obtain⟨its1,rv1,pt1,hz1⟩:=I1.list hq1
 obtain⟨its2,rv2,pt2,hz2⟩:=I1.list hq2
 refine PySem.call_zip_2 pt1.isList pt2.isList λh' g1 g2 g3 g4 g5 g6 g7=>?_
 have I2:Inv X pins O H1 {s1 with heap:=h',toks:=s1.toks}:=I1.kept (t':=s1.toks) g7
 refine wpAny_pyIter_zip (s:={s1 with heap:=h',toks:=s1.toks}) g1 ?_
 refine⟨s1.heap.objs.size+4,[s1.heap.objs.size+4,s1.heap.objs.size+2,s1.heap.objs.size+3,s1.heap.objs.size,s1.heap.objs.size+1],_,_,H1,rfl,I2,turn_zip a1 a2 _ _ _ _ _ xs ys ?_,⟨g1,g2,⟨_,_,g3⟩,g4,g5⟩,λb hb=>?_,q⟩
 .exact zip5_at _
 have hle:s1.heap.objs.size<=b:=by
  have hb':b=s1.heap.objs.size+4∨b=s1.heap.objs.size+2∨b=s1.heap.objs.size+3∨b=s1.heap.objs.size∨b=s1.heap.objs.size+1:=by simpa using hb
  rcases hb' with y |y |y |y |y
  .rw [y];exact le_add_right _ _
  .rw [y];exact le_add_right _ _
  .rw [y];exact le_add_right _ _
  .rw [y];exact Nat.le_refl _
  .rw [y];exact le_add_right _ _
 exact I1.fpOk hle (I1.hok.fresh hle)
theorem sI_zip {a:TA}{As:DA}(h:SimAF K a As):SimI K (iZip K a) (dZip As):=λF0 H0 F H O M P R e w q=>h F0 H0 F H O M _ _ e w λds vs F' H' p x r=>by
 split at p
 .rename_i xs ys
  obtain⟨v1,v2,rfl,⟨a1,us1,rfl,h1,h2⟩,⟨a2,us2,rfl,k1,k2⟩⟩:=reps2 r
  have hl1:=h2.length
  have hl2:=k2.length
  refine⟨a1,a2,us1,us2,rfl,x.fh.seq h1,x.fh.seq k1,q _ _ F' H' p x λF1 H1 s1 s2=>?_⟩
  have hq1:=(s1.trans s2).seq h1
  have hq2:=(s1.trans s2).seq k1
  have hlen:((xs.zip ys).map λp=>D.tup [p.1,p.2]).length=min xs.length ys.length:=by simp
  refine⟨λi hi=>⟨hq1,hq2,by lia,by lia⟩,⟨hq1,hq2,by lia⟩,λi x H2 hi y=>?_⟩
  obtain⟨t,y1,y2,rfl,ht,sm,hy1,hy2,ht2⟩:=y
  obtain⟨d1,hd1,rd1⟩:=h2.get' hy1
  obtain⟨d2,hd2,rd2⟩:=k2.get' hy2
  refine⟨.tup [d1,d2],upd F1 t (.tup [y1,y2]),?_,Ext.new s2 ht sm ht2,t,[y1,y2],rfl,.inl (.inl upd_same),?_⟩
  .rw [getElem?_map,getElem?_zip_eq_some (z:=(d1,d2)) |>.mpr ⟨hd1,hd2⟩]
   rfl
  .exact ⟨_,_,rfl,(rd1.mono s1).mono (Same.upd' (s2.free ht)),_,_,rfl,(rd2.mono s1).mono (Same.upd' (s2.free ht)),rfl⟩
 .exact p.elim
end
def dRep1 (Eo:DO)(Eb:DE):DO:=λM P=>Eo M λr=>match r with
 | .nl [.fz d]=>Eb M λy=>match y with
  | .int k=>(0<=k/\k<=1000000)/\P (.nl (List.replicate k.toNat (.fz d)))
  |_=>False
 |_=>False
section
variable {X:Cx}{K:Frag}{mg:Str->Option Value}
theorem Reps.rep (h:Rep K F d v): ∀n:Nat,Reps K F (List.replicate n d) (List.replicate n v)
 | 0=>rfl
 |n+1=>⟨v,List.replicate n v,rfl,h,Reps.rep h n⟩
theorem sO_rep1 (ha:SimO K ta Eo)(hb:SimB K tb Eb): SimO K (tOp rRep ta tb) (dRep1 Eo Eb):=λF0 H0 F H O M P Q e w q=>
 ha F0 H0 F H O M _ _ e w λr v F1 H1 w1 x1 r1=>by
  split at w1
  .rename_i d
   obtain⟨A0,⟨p,vs,B,rfl,rfl,hp,hB⟩,a2,a3⟩:=r1
   obtain⟨v0,r0,B1,C,rfl,rfl,⟨_,rd⟩,hC,_⟩:=hB
   subst hC
   refine hb F0 H0 F1 H1 O M _ _ (e.on x1) w1 λy u F2 H2 w2 x2 r2=>?_
   split at w2
   .rename_i k
    obtain⟨⟨k0,k1⟩,pr⟩:=w2
    have x12:=x1.trans x2
    cases r2
    refine⟨p,k,[v0],rfl,rfl,x2.hh _ _ hp,by lia,by lia,sz_le (by simp;omega),λl l0=>?_⟩
    have ef:(List.replicate k.toNat [v0]).flatten=List.replicate k.toNat v0:=List.flatten_replicate_singleton
    rw[ef]
    have em:(List.replicate k.toNat d).map OV.fz=List.replicate k.toNat (OV.fz d):=List.map_replicate
    refine q _ _ F2 _ pr (x12.trans (Ext.grow x2.fh (Same.new l0))) ?_
    rw[<- em]
    exact RepN.list (x12.hh.free l0) (x2.fh.free l0) upd_same (Reps.rep (rd.mono x2.ff) _)
   .exact w2.elim
  .exact w1.elim
end
section
variable {prog:Program}{w:World}{A:Around}{E:Value->Shared->Prop}{s:Shared}
end
section
variable {X:Cx}{K:Frag}{tg:Expr}
end
section
variable {X:Cx}{K:Frag}
end
section
variable {prog:Program}{w:World}{A:Around}{E:Value->Shared->Prop}{s:Shared}
end
def dSlB (Ea:DE)(L U:DPt):DE:=λM P=>Ea M λx=>L M λlo=>U M λhi=>match x with
 | .lst xs=>P (.lst (cutD xs lo hi))
 |_=>False
def sumD:List D->(D->Prop)->Prop:=λds P=>match ds with
 | [.lst xs]=>∃ns:List Int,xs=ns.map D.int/\P (.int ns.sum)
 |_=>False
section
variable {X:Cx}{K:Frag}{mg:Str->Option Value}
def rSumL (K:Frag):List V->Hp->VK->Prop:=λxs H Q=>∃(l:Addr) (ns:List Int),xs=[.ref l]/\SqL K H l (ns.map V.int)/\Q (.int ns.sum) H
theorem call_sumI (hc:X.calm=true:=by rfl):CallR X (.builtin "sum") (rSumL X.K):=by
 intro pins s O H xs us Q I r h
 obtain⟨l,ns,rfl,hq,q⟩:=h
 obtain⟨u,rfl,ru⟩:=vals1 r
 cases ru
 obtain⟨its,rv,pl,hz⟩:=I.list hq
 have hi:IntsAre its ns:=intsAre_of rv
 have hl:=pl.isList
 obtain⟨ys,e⟩:=hi.allInts.items
 have hns:ns=ys.toList.map (·.1):=by rw[<- hi.numsOf,<- nums_intItems,<- e]
 rw[e]at hl
 refine sum_intListG (I.ok.hd hc) hl λh' tk t' hk=>?_
 refine⟨.int _,H,I.kept hk,⟨t',rfl⟩,?_⟩
 rw[preSum_eq,take_of_length_le (by simp),<- hns]
 exact q
theorem cS_sum:CbS K (rSumL K) sumD:=λF H ds vs P Q s rs w q=>by
 unfold sumD at w
 split at w
 .obtain ⟨ns,rfl,w⟩:=w
  obtain⟨v,rfl,p,us,rfl,h1,h2⟩:=reps1 rs
  rw[reps_ints]at h2
  subst h2
  exact⟨p,ns,rfl,h1,q _ _ F H w (Ext.refl s) rfl⟩
 .exact w.elim
end
section
variable {X:Cx}{K:Frag}{mg:Str->Option Value}
def TupC (K:Frag)(mg:Str->Option Value)(x:Str)(d:D):Prop:=∃a,mg x=some (.ref a)/\∀F,Rep K F d (.ref a)
def tGl (K:Frag)(d:D):TE:=λ_ H Q=>∀v,(∀F,Rep K F d v)->Q v H
theorem pe_globT (hg:Gl X x)(hm:TupC X.K X.mg x d)(hd:(x==("__debug__":Str))=false:=by decide): PE X (.Name x pos) (tGl X.K d):=by
 intro pins s O H Q I h
 obtain⟨a,e,r⟩:=hm
 exact pe_glob (v:=.ref a) hg e rfl hd pins s O H Q I (h _ r)
end
open PySem PySem.Spec PyProof.Rows PyProof.V PySem.W
section
variable {P:Program}{w:World}{H:Hp}{h:Heap}{a:Addr}{o:HO}
end
section
variable {P:Program}{w:World}{K:Frag}{mg:Str->Option Value}{base:Heap}{N:List Str}{qual:Str}{scope:Scope}{f:Addr}{cd:Value}{A:Around}{outer:List Env}{s:Shared}{H:Hp}{E:XK}
end
section
variable {X:Cx}{pins:List (Addr×Obj)}{O:St}{H:Hp}{s:Shared}
end
section
variable {X:Cx}
end
open PySem PySem.Spec PyProof.Rows
section
end
section
variable {X:Cx}{c m:Str}{k:Nat}{ps:List Str}{sp:Sp}{o e:Expr}{es:List Expr}{ta:TE}{t:TA}{p pos apos:Pos}
end
section
variable {K:Frag}{c f m:Str}{ns:List Str}{i j:Nat}{ta te:TE}{E:DE}{Eo:DO}
end
section
variable {P:Program}{w:World}{K:Frag}{mg:Str->Option Value}{base:Heap}{c m q:Str}{ns:List Str}{st:Stmt}{f:Addr}{fd:FuncData}{N ps:List Str}{k n:Nat}
end
end L2
namespace PySem
open Sem (wp)
section
variable {prog:Program}{w:World}{A:Around}{E:Value->Shared->Prop}{s:Shared}
end
end PySem
namespace L2
open PySem PySem.Spec PyProof.Rows
section
variable {X:Cx}{K:Frag}
end
section
variable {X:Cx}{K:Frag}
end
section
variable {X:Cx}{K:Frag}
end
section
variable {X:Cx}{K:Frag}
end
section
variable {K:Frag}{c f:Str}{ns:List Str}{j:Nat}{ta:TE}{E:DE}
end
theorem compLoop_if {prog:Program}{w:World}{A:Around}{R:Result->Shared->Prop}{s:Shared}{elt target iter c:Expr}{scope:Scope}{pos:Pos}{it acc:Value}{env:Env}(I:Nat->Shared->Prop)
  (turn : ∀n s,I n s->wpAny (model prog w) A (pyNext it) (λr s₁=>match r with
   |none=>R (.ok .next) s₁
   |some v=>wpAny (model prog w) A (letOwnedTupleGo target it v) (λ_ s₂=>wpAny (model prog w) A (assign target env v) (λ_ s₃=>wpAny (model prog w) A (isTrue c env (eval c env)) (λb s₄=>if b=true then wpAny (model prog w) A (eval elt env) (λx s₅=>
     wpAny (model prog w) A (call (.builtin "list.append") [acc,x]) (λ_ s₆=>∃m,m<n/\I m s₆) (λ_ _=>False) s₅) (λ_ _=>False) s₄ else ∃m,m<n/\I m s₄) (λ_ _=>False) s₃) (λ_ _=>False) s₂) (λ_ _=>False) s₁) (λ_ _=>False) s)
  (n:Nat) (h:I n s):codeAny (model prog w) A (.compLoop (.ListComp elt [⟨target,iter,[c],0⟩] scope pos) 0 it acc env) R s:=by
 refine codeAny_loop rfl I (λn s hI=>?_) n h
 refine wpAny_noted ?_
 refine wpAny_bind (wpAny_standAt (wpAny_bind (wpAny_mono (turn n s hI) (λr s₁ h₁=>?_) λ_ _ f=>f.elim)))
 cases r with
 |none=>exact wpAny_pure h₁
 |some v=>
  refine wpAny_bind (wpAny_mono h₁ (λ_ s₂ h₂=>?_) λ_ _ f=>f.elim)
  refine wpAny_bind (wpAny_mono h₂ (λ_ s₃ h₃=>?_) λ_ _ f=>f.elim)
  refine wpAny_bind (wpAny_tests_one (wpAny_mono h₃ (λb s₄ h₄=>?_) λ_ _ f=>f.elim))
  cases b with
  |false=>exact wpAny_pure ⟨rfl,h₄⟩
  |true=>exact wpAny_bind (wpAny_bind (wpAny_mono h₄ (λx s₅ h₅=>wpAny_bind (wpAny_mono h₅ (λ_ s₆ h₆=>wpAny_pure (wpAny_pure ⟨rfl,h₆⟩)) λ_ _ f=>f.elim)) λ_ _ f=>f.elim))
def CompTW (J:It)(D:Addr)(g:TG)(tc:TT)(te:TE)(O₀:St)(H₀:Hp)(fin:Hp->Prop):Prop:=
 ∃W:Nat->Nat->St->List V->Hp->Prop,(∃m,W 0 m O₀ [] H₀)/\∀i m O ys H,W i m O ys H->
  (J.stop i H/\fin H)∨(ys.length<sizeLine/\J.go i H/\∀x H',J.yld i H x H'->g x O H' λO2 H2=>tc O2 H2 λb H2=>if b=true then te O2 H2 λy H3=>H3 D=some (.lst ys)/\∃m',m'<m/\W (i+1) m' O2 (ys++[y]) (upd H3 D (.lst (ys++[y]))) else ∃m',m'<m/\W (i+1) m' O2 ys H2)
def tCompIf (wi:TI)(ix:List (Option Nat))(g:TG)(tc:TT)(te:TE):TE:=λO H Q=>wi O H λJ H1=>∀D,H1 D=none->CompTW J D g tc te (blkσ ix O) (upd H1 D (.lst [])) λH'=>Q (.ref D) H'
section
variable {X:Cx}{tg elt iter cd:Expr}{scope:Scope}{N:List Str}{ix:List (Option Nat)}{wi:TI}{g:TG}{tc:TT}{te:TE}{pos:Pos}
theorem comp_coreIf {pins:List (Addr×Obj)}{s:Shared}{O:St}{H:Hp}{Q:VK}{RR:Value->Addr->Result->Shared->Prop}(hc:X.calm=true)(hi:PI X tg iter wi)(S:BlkScope X.env.scope scope)(cap:CapOf X scope N ix)
  (hg:∀fp s H,PG (X.blk scope N fp s H) tg g) (ht:∀fp s H,PT (X.blk scope N fp s H) cd tc) (he:∀fp s H,PE (X.blk scope N fp s H) elt te) (I:Inv X pins O H s) (h:tCompIf wi ix g tc te O H Q)
  (hRR:∀D C H' s',Inv X pins O H' s'->FpOk X pins H' C->(∃m,s'.heap.Ns C m)->Q (.ref D) H'->RR (.ref D) C (.ok .next) s'):
  wpAny (model X.prog X.w) X.A (eval iter X.env) (λx s₁=>wpAny (model X.prog X.w) X.A (pyIter x) (λit s₂=>wpAny (model X.prog X.w) X.A (newList []) (λacc s₃=>
   wpAny (model X.prog X.w) X.A (newFunctionEnv scope X.env.globals (freeL scope X.env) [] X.env.qual none .none (some X.env)) (λcenv s₄=>
    codeAny (model X.prog X.w) X.A (.compStart (.ListComp elt [⟨tg,iter,[cd],0⟩] scope pos) 0 it acc {cenv with scope:=relabel scope X.env}) (RR acc cenv.locals) s₄) X.xe s₃) X.xe s₂) X.xe s₁) X.xe s:=by
 refine thn (hi pins s O H _ I h) λv s1 h1=>thn h1 λitv s2 h2=>?_
 obtain⟨it,fp,tn,J,H2,e,I2,T,st2,f2,R⟩:=h2
 subst e
 refine wpAny_newObj_type (wpAny_newFunctionEnv S.cell (by intro y hy;simp at hy) (λh₁ hns₁ hsb₁=>?_) S.kind)
 dsimp only at hns₁ hsb₁ ⊢
 have I3:Inv X pins O (upd H2 s2.heap.objs.size (.lst [])) {s2 with heap:=s2.heap.push {cls:=.type "list",data:=.seq ([]:List Value).toArray},toks:=s2.toks}:=I2.lnew .nil (zero_le _)
 have hD:H2 s2.heap.objs.size=none:=I2.fresh
 have lt2:∀b∈fp,b<s2.heap.objs.size:=λb hb=>by obtain⟨o,e,_⟩:=T.obj 0 _ st2 b hb;exact lt_size e
 obtain⟨W,⟨m0,w0⟩,turn⟩:=R s2.heap.objs.size hD
 generalize hs3:({s2 with heap:=s2.heap.push {cls:=.type "list",data:=.seq ([]:List Value).toArray},toks:=s2.toks}:Shared)=s3 at I3
 have e3:s3.heap=s2.heap.push {cls:=.type "list",data:=.seq ([]:List Value).toArray}:=by rw[<- hs3]
 have sz3:s3.heap.objs.size=s2.heap.objs.size+1:=by rw[e3,size_push]
 have f3:∀b∈fp,FpOk X pins (upd H2 s2.heap.objs.size (.lst [])) b:=λb hb=>⟨by rw[upd_ne (ne_of_lt (lt2 b hb))];exact (f2 b hb).1,(f2 b hb).2⟩
 have lt3:∀b∈fp,b<s3.heap.objs.size:=λb hb=>by rw[sz3];exact lt_succ_of_lt (lt2 b hb)
 have hns₁':=hns₁
 rw[<- e3]at hns₁'
 have hsb₁':=hsb₁
 rw[<- e3]at hsb₁'
 have J0:=I3.blk (t:=s2.toks+([]:List (Str×Value)).length) S cap f3 lt3 hns₁' hsb₁'
 have keep1:∀b o,s2.heap.get? b=some o->h₁.get? b=some o:=λb o e=>hsb₁.extBut b o (by rw[size_push];exact ne_of_lt (lt_succ_of_lt (lt_size e))) (get?_push_of_some _ (get?_push_of_some _ e))
 have st1:tn 0 h₁:=T.keep 0 _ _ st2 λb _ o e=>keep1 b o e
 have stat:∀{H':Hp},(∀b∈fp,H' b=none)->∀b∈fp,FpOk (X.blk scope N fp s3 (upd H2 s2.heap.objs.size (.lst []))) [] H' b:=λ{H'} hn b hb=>by
  refine⟨hn b hb,ne_of_lt (lt3 b hb),λz=>?_,.inl hb,λx c e=>(f2 b hb).2.2.2.2.1 x c (blk_cell I.ok S e),λp hp=>absurd (show p∈([]:List (Addr×Obj)) from hp) (by simp)⟩
  rcases mem_cons.mp (I3.stkSub b z) with y |y
  .exact (f2 b hb).2.1 y
  .exact (f2 b hb).2.2.1 y
 have loop:∀s4:Shared,s4={s3 with heap:=h₁,toks:=s2.toks+([]:List (Str×Value)).length}->
   codeAny (model X.prog X.w) X.A (.compLoop (.ListComp elt [⟨tg,iter,[cd],0⟩] scope pos) 0 (.ref it) (.ref s2.heap.objs.size) (compEnvC scope (freeL scope X.env) s3.heap.objs.size X.env)) (RR (.ref s2.heap.objs.size) s3.heap.objs.size) s4:=by
  rintro s4 rfl
  refine compLoop_if (λn s'=>∃i O' ys H',Inv (X.blk scope N fp s3 (upd H2 s2.heap.objs.size (.lst []))) [] O' H' s'/\tn i s'.heap/\(∀b∈fp,H' b=none)/\W i n O' ys H') ?_ m0 ⟨0,_,[],_,J0,st1,λb hb=>(f3 b hb).1,w0⟩
  rintro n s' ⟨i,O',ys,H',I',st',fr',w'⟩
  rcases turn i n O' ys H' w' with⟨stop,fin⟩ | ⟨hy,go,step⟩
  .refine thn (T.done (X.blk scope N fp s3 (upd H2 s2.heap.objs.size (.lst []))) rfl rfl rfl hc i [] s' O' H' _ I' (stat fr') st' stop) λr s5 ⟨hr,I5⟩=>?_
   subst hr
   obtain⟨m,hn,_⟩:=I5.loc
   exact hRR _ _ H' s5 (I3.unblk f3 I5) (I3.fpOk (Nat.le_refl _) I5.free) ⟨m,hn⟩ fin
  .refine thn (T.item (X.blk scope N fp s3 (upd H2 s2.heap.objs.size (.lst []))) rfl rfl rfl hc i [] s' O' H' _ I' (stat fr') st' go) λr s5 ⟨u,hr,h5⟩=>?_
   subst hr
   refine thn h5 λ_ s6 ⟨x,H6,I6,r6,y6,st6,fr6⟩=>?_
   have I6':=I6.pinned (stat fr6) (T.obj _ _ st6)
   refine thn (hg fp s3 _ _ s6 O' H6 x u _ I6' r6 (step x H6 y6)) λ_ s7 ⟨O7,H7,I7,q7⟩=>?_
   refine thn (ht fp s3 _ _ s7 O7 H7 _ I7 q7) λb s7b ⟨H7b,I7b,q7b⟩=>?_
   cases b with
   |false=>
    obtain⟨m',hm',w8⟩:=q7b
    refine⟨m',hm',i+1,O7,ys,_,I7b.unpinned,T.keep _ _ _ st6 λb hb o e=>(I7b.pin (b,o) (mem_append_right _ (mem_append_right _ (mem_pinsAt hb e)))).1,λb hb=>?_,w8⟩
    obtain⟨o,e,_⟩:=T.obj _ _ st6 b hb
    exact (I7b.pin (b,o) (mem_append_right _ (mem_append_right _ (mem_pinsAt hb e)))).2.1
   |true=>
    refine thn (he fp s3 _ _ s7b O7 H7b _ I7b q7b) λyv s8 ⟨y,H8,I8,r8,hl8,m',hm',w8⟩=>?_
    refine thn (mt_append _ s8 O7 H8 (.ref s2.heap.objs.size) [y] (.ref s2.heap.objs.size) [yv] (λ_ H9=>H9=upd H8 s2.heap.objs.size (.lst (ys++[y]))) I8 rfl (.cons r8 .nil) ⟨_,ys,y,rfl,rfl,hl8,hy,rfl⟩) λ_ s9 ⟨_,H9,I9,_,e9⟩=>?_
    subst e9
    refine⟨m',hm',i+1,O7,ys++[y],_,I9.unpinned,T.keep _ _ _ st6 λb hb o e=>(I9.pin (b,o) (mem_append_right _ (mem_append_right _ (mem_pinsAt hb e)))).1,λb hb=>?_,w8⟩
    obtain⟨o,e,_⟩:=T.obj _ _ st6 b hb
    exact (I9.pin (b,o) (mem_append_right _ (mem_append_right _ (mem_pinsAt hb e)))).2.1
 have fin:=loop _ rfl
 rw[<- hs3]at fin
 exact codeAny_compStart_list fin (T.self _ 0 _ _ _ st1 fin)
theorem pe_compIf (hc:X.calm=true)(hi:PI X tg iter wi)(S:BlkScope X.env.scope scope)(cap:CapOf X scope N ix)(hg:∀fp s H,PG (X.blk scope N fp s H) tg g)(ht:∀fp s H,PT (X.blk scope N fp s H) cd tc)(he:∀fp s H,PE (X.blk scope N fp s H) elt te)
  (hs:∀x,foldedSetIterable iter X.env x=pure x:=by intro _;rfl):PE X (.ListComp elt [⟨tg,iter,[cd],0⟩] scope pos) (tCompIf wi ix g tc te):=by
 intro pins s O H Q I h
 refine wpAny_comprehension_free rfl hs (blk_clos S I.ok) S.kind S.names (comp_coreIf (RR:=λacc C=>compPost (model X.prog X.w) X.A X.xe none (EP X pins O Q) acc C) hc hi S cap hg ht he I h λD C H' s' I' f' hn q=>?_)
 obtain⟨m,hn⟩:=hn
 exact⟨m,hn,λh' hs'=>⟨.ref D,H',I'.frameGone f' hs',rfl,q⟩⟩
theorem ps_setCompIf {i:Nat}{y:Str}{py spos:Pos}(hN:X.N.Nodup)(hiN:X.N[i]?=some y)(hy:Loc X.env.scope y)(hc:X.calm=true)(hi:PI X tg iter wi)(S:BlkScope X.env.scope scope)(cap:CapOf X scope N ix)
  (hg:∀fp s H,PG (X.blk scope N fp s H) tg g) (ht:∀fp s H,PT (X.blk scope N fp s H) cd tc) (he:∀fp s H,PE (X.blk scope N fp s H) elt te)
  (hsw:swapsWith (.ListComp elt [⟨tg,iter,[cd],0⟩] scope pos) (some (.Name y py)) spos.line X.env=pure true:=by rfl)
  (hs:∀x,foldedSetIterable iter X.env x=pure x:=by intro _;rfl) (hf:X.fn y=true∨X.env.scope.names.lookup y=some .local:=by first |exact .inl rfl |exact .inr rfl |assumption):
  PS X (.Assign [.Name y py] (.ListComp elt [⟨tg,iter,[cd],0⟩] scope pos) spos) (tAsg (tCompIf wi ix g tc te) (gName i)):=by
 intro pins s O H D I h
 rw[exec_Assign_Name_used _ _ _ _ hsw]
 refine wpAny_bind (wpAny_standAt (wpAny_bind ?_))
 refine wpAny_bind (wpAny_mono (wpAny_comprehension_free (use:=some (assign (.Name y py) X.env)) (Q:=λ_ s'=>SP X pins D .next s') rfl hs (blk_clos S I.ok) S.kind S.names
  (comp_coreIf (RR:=λacc C=>compPost (model X.prog X.w) X.A X.xe (some (assign (.Name y py) X.env)) (λ_ s'=>SP X pins D .next s') acc C) hc hi S cap hg ht he I h λl C H' s' I' f' hn q=>?_)) (λ_ s' hq=>wpAny_pure (wpAny_pure hq)) λ_ _ e=>e)
 obtain⟨m,hn⟩:=hn
 refine wpAny_assign_Name (store_ok2 (v:=.ref l) I' hN hiN hy rfl (λs'' I'' ⟨a,hsb,ha⟩=>?_) hf)
 have hCa:C≠a:=by
  rcases ha with z |z
  .rw [z];exact f'.2.1
  .exact Ne.symm (f'.2.2.2.2.1 y a z)
 exact⟨m,hn.sameBut hsb hCa,λh' hs'=>⟨_,H',I''.frameGone f' hs',q⟩⟩
end
section
variable {K:Frag}{te:TE}{Eo:DO}
theorem sO_compIf {wi:TI}{I:DA}{g:TG}{G:D->Dst->(Dst->Prop)->Prop}{ix:List (Option Nat)}(hi:SimI K wi I){tc:TT}{C:DT}(hg:SimG K g G)(ht:SimT K tc C)(he:SimO K te Eo):SimO K (tCompIf wi ix g tc te) (dCompIf I ix G C Eo):=λF0 H0 F H O M P Q e w q=>
 hi F0 H0 F H O M _ _ e w λds J F1 H1 p x1 hJ=>by
  intro L hL
  obtain⟨A,e⟩:=e.on x1
  obtain⟨W,w0,ws,wd⟩:=p
  have f1:Same F1 H1:=x1.fh
  refine⟨λi m O ys H=>m=ds.length-i/\i<=ds.length/\∃F M ts B,ER K F1 H1 F H O M (λ_=>[])/\W i M ts/\F L=none/\H L=some (.lst ys)/\RepOs K F H ts ys B/\(L::B).Nodup/\∀b∈B,H1 b=none/\F b=none,
   ⟨ds.length,rfl,zero_le _,F1,_,[],[],e.blk ix (Same.new hL),w0,f1.free hL,upd_same,⟨rfl,rfl⟩,by simp,λ_ h=>by cases h⟩,?_⟩
  rintro i m O2 ys H2 ⟨rfl,hil,F2,M2,ts,B,e2,w2,l1,l2,hr,nd,nw⟩
  obtain⟨j1,j2,j3⟩:=hJ F2 H2 e2.ext.ff e2.ext.fh
  by_cases hlt:i<ds.length
  .obtain ⟨d0,hd0⟩:∃d,ds[i]?=some d:=⟨_,getElem?_eq_getElem hlt⟩
   have hl:=hr.length
   refine .inr ⟨sz_lt (by have:=(ws i d0 M2 ts hd0 w2).1;lia),j1 i hlt,λx H3 y=>?_⟩
   obtain⟨d,F3,hd,x3,r3⟩:=j3 i x H3 hlt y
   refine hg F1 H1 F3 H3 O2 M2 (λ_=>[]) d x _ _ (e2.on x3) r3 (ws i d M2 ts hd w2).2 λO4 M4 A4 w4 e4 sub=>?_
   have e4':ER K F1 H1 F3 H3 O4 M4 (λ_=>[]):=by
    have:A4=λ_=>[]:=funext λk=>List.eq_nil_iff_forall_not_mem.mpr λb hb=>by cases sub k b hb
    rw[this]at e4;exact e4
   refine ht F1 H1 F3 H3 O4 M4 _ _ ⟨_,e4'⟩ w4 λb F3b H3b pb xt=>?_
   cases b with
   |false=>
    have x25:=x3.trans xt
    refine⟨ds.length-(i+1),by lia,rfl,hlt,F3b,M4,ts,B,e4'.on xt,pb,x25.no L _ l1 l2 rfl,x25.hh _ _ l2,hr.frame x25.ff (λb hb xs z=>x25.hh _ _ z),nd,λb hb=>?_⟩
    obtain⟨xs,qq,himm⟩:=hr.isl b hb
    exact⟨(nw b hb).1,x25.no b _ (nw b hb).2 qq himm⟩
   |true=>
    refine he F1 H1 F3b H3b O4 M4 _ _ ⟨_,e4'.on xt⟩ pb λr v F5 H5 p5 x5 n5=>?_
    have x25:=(x3.trans xt).trans x5
    have l5:=x25.hh _ _ l2
    have l5f:=x25.no L _ l1 l2 rfl
    refine⟨l5,ds.length-(i+1),by lia,rfl,hlt,F5,M4,ts++[r],?_⟩
    obtain⟨C,c1,c2,c3⟩:=n5
    obtain⟨n1,n2⟩:=nodup_cons.mp nd
    have hLC:L∉C:=λz=>by
     have q:=(c3 L z).1
     rw[(x3.trans xt).hh _ _ l2]at q;cases q
    have hBC:∀b,b∈B->b∉C:=λb hb z=>by
     obtain⟨xs,q,himm⟩:=hr.isl b hb
     have:=(c3 b z).1
     rw[(x3.trans xt).hh _ _ q]at this;cases this
    have e5:=(e4'.on xt).on x5
    refine⟨B++C,⟨e5.len,⟨e5.ext.ff,λb o h=>?_,λb o h=>?_,e5.ext.no⟩,λj t hj=>?_,e5.bw,e5.nod,e5.dis,λ_ _ h=>by cases h⟩,p5,l5f,upd_same,?_,?_,λb hb=>?_⟩
    .exact upd_off (λz=>by rw[z,hL]at h;cases h) (e5.ext.hh _ _ h)
    .exact upd_off (λz=>by rw[z,l5f]at h;cases h) (e5.ext.fh _ _ h)
    .obtain ⟨u,h1,h2⟩:=e5.own j t hj
     exact⟨u,h1,h2.frame (Same.refl _) λ_ z=>by cases z⟩
    .exact RepOs.append (hr.frame x25.ff λb hb xs z=>upd_off (λq=>n1 (by rw[<- q];exact hb)) (x25.hh _ _ z)) (RepOs.one (c1.frame (Same.refl _) λb hb xs z=>upd_off (λq=>hLC (by rw[<- q];exact hb)) z))
    .refine nodup_cons.mpr ⟨λz=>?_,nodup_append.mpr ⟨n2,c2,λx hx y hy z=>by subst z;exact hBC x hx hy⟩⟩
     rcases mem_append.mp z with z |z
     .exact n1 z
     .exact hLC z
    .rcases mem_append.mp hb with z |z
     .obtain ⟨xs,qq,himm⟩:=hr.isl b z
      exact⟨(nw b z).1,x25.no b _ (nw b z).2 qq himm⟩
     .exact ⟨(e2.ext.hh.trans (x3.trans xt).hh).free (c3 b z).1,(c3 b z).2⟩
  .have hi':i=ds.length:=by lia
   subst hi'
   refine .inl ⟨j2,q _ _ F2 H2 (wd _ _ w2) (x1.trans e2.ext) ⟨L::B,⟨L,ys,B,rfl,rfl,l2,hr⟩,nd,λb hb=>?_⟩⟩
   rcases mem_cons.mp hb with rfl |z
   .exact ⟨x1.hh.free hL,l1⟩
   .exact ⟨x1.hh.free (nw b z).1,(nw b z).2⟩
end
section
variable {prog:Program}{w:World}{A:Around}{E:Value->Shared->Prop}{s:Shared}
end
section
variable {X:Cx}{K:Frag}{mg:Str->Option Value}
end
section
variable {X:Cx}{K:Frag}
theorem vals_of_ints:∀{us:List Value} {ns:List Int},IntsAre us ns->Vals (ns.map V.int) us
 |_,_,.nil=>.nil
 |_,_,.cons n t h=>.cons ⟨t,rfl⟩ (vals_of_ints h)
end
abbrev TK:=V->St->Hp->(Bool->Hp->Prop)->Prop
section
variable {X:Cx}{K:Frag}{a e e':Expr}{es:List Expr}{op op':CmpOp}{ops:List CmpOp}{r:R2}{ta te:TE}{tk:TK}{pos:Pos}
end
abbrev DK:=D->Dst->(Bool->Prop)->Prop
section
variable {K:Frag}{ta te:TE}{E Ea:DE}{tk:TK}{k:DK}{R:R2}{r:DR2}
end
def sNever:DS:=λ_ _=>False
section
variable {X:Cx}{K:Frag}{st:Stmt}{sts:List Stmt}
theorem sS_never:SimS K tNever sNever:=λ_ _ _ _ _ _ _ _ _ _ w=>w.elim
end
section
variable {prog:Program}{w:World}{A:Around}{E:Value->Shared->Prop}{s:Shared}
end
section
variable {X:Cx}{K:Frag}{mg:Str->Option Value}
end
section
variable {X:Cx}{K:Frag}{x:Str}{kds:List (Str×D)}{i:Expr}{ty:TE}{pos pos':Pos}
end
section
variable {δ:Model}{A:Around}{E:Value->Shared->Prop}{s:Shared}
end
section
variable {X:Cx}{pins:List (Addr×Obj)}{O:St}{H:Hp}{s:Shared}{scope:Scope}{N:List Str}{ix:List (Option Nat)}{fp:List Addr}{z:Str}
end
section
variable {X:Cx}{tg elt iter:Expr}{scope:Scope}{N:List Str}{ix:List (Option Nat)}{wi:TI}{g:TG}{te:TE}{pos:Pos}{z:Str}
end
def stepA {α:Type}(xs:List α)(a c:Int):List α:=(sliceRange (max 0 (min a xs.length)) xs.length c).filterMap (xs[·]?)
theorem stepA_map {α β:Type}(f:α->β)(xs:List α)(a c:Int):stepA (xs.map f) a c=(stepA xs a c).map f:=by
 unfold stepA
 rw[length_map,List.map_filterMap]
 congr 1
 funext j
 rw[getElem?_map]
def dSlSA (Ea El Ec:DE):DO:=λM P=>Ea M λx=>El M λl=>Ec M λc=>match x,l,c with
 | .lst xs,.int a,.int c=>(0<=a/\0<c)/\P (.nl ((stepA xs a c).map .fz))
 |_,_,_=>False
def rStepA (K:Frag):V->Int->Int->Hp->VK->Prop:=λx l c H Q=>∃a xs,x = .ref a/\SqL K H a xs/\0<=l/\0<c/\∀p H',H p=none->Same H H'->H' p=some (.lst (stepA xs l c))->Q (.ref p) H'
def tStepA (r:V->Int->Int->Hp->VK->Prop)(te tl tc:TE):TE:=λO H Q=>te O H λx H1=>tl O H1 λl H2=>tc O H2 λc H3=>∃k i,l = .int k/\c = .int i/\r x k i H3 Q
section
variable {X:Cx}
theorem pe_stepA {e l c:Expr}{te tl tc:TE}{p2 pos:Pos}(he:PE X e te)(hl:PE X l tl)(hc:PE X c tc):PE X (.Subscript e (.Slice (some l) none (some c) p2) pos) (tStepA (rStepA X.K) te tl tc):=by
 intro pins s O H Q I h
 refine Subscript_ (thn (he pins s O H _ I h) λv s1 ⟨x,H1,I1,r1,q1⟩=>?_)
 refine wpAny_Slice ?_
 refine thn (hl pins s1 O H1 _ I1 q1) λvl s2 ⟨yl,H2,I2,rl,q2⟩=>?_
 refine wpAny_pure ?_
 refine thn (hc pins s2 O H2 _ I2 q2) λvc s3 ⟨y,H3,I3,rc,k,i,el,ey,q3⟩=>?_
 subst ey;subst el
 obtain⟨a,xs,rfl,hq,hk,hi,q⟩:=q3
 obtain⟨tk,rfl⟩:=rc
 obtain⟨tl',rfl⟩:=rl
 cases r1
 have I4:Inv X pins O H3 {s3 with heap:=s3.heap.push {cls:=.type "slice",data:=.fields #[.int k tl',.none,.int i tk]}}:=I3.kept (t':=s3.toks) λb ob q=>get?_push_of_some _ q
 obtain⟨its,rv,pl,hz⟩:=I4.list hq
 have hn:=rv.length
 have hbd:sliceBounds (some k) none (some i) its.toArray.size=(max 0 (min k (xs.length:Int)),(xs.length:Int),i):=by
  unfold sliceBounds
  simp[hi,hn,not_lt.mpr hk]
 have hpk:slicePick its.toArray (some k) none (some i)=((sliceRange (max 0 (min k xs.length)) xs.length i).filterMap (its.toArray[·]?)).toArray:=by
  unfold slicePick
  rw[hbd]
 refine tail_any (T := "list") (ops:=[.ref a,.ref s3.heap.objs.size]) pl.isList.typeIs slot_list_getitem.lookup ?_ (by with_unfolding_all rfl)
 refine wpAny_getItem_list_slice pl.isList (Heap.IsSliceOf.new ..) (.int k tl') .none (.int i tk) (by intro z;injection z with z;lia) ?_ (by rw[size_toArray]<;>lia)
 rw[hpk]
 have hle:(stepA xs k i).length<=xs.length:=by
  have h1:=slicePick_size_le its.toArray (some k) none (some i)
  rw[hpk,size_toArray,size_toArray]at h1
  have h2:=(vals_pick rv (sliceRange (max 0 (min k xs.length)) xs.length i)).length
  show ((sliceRange (max 0 (min k xs.length)) xs.length i).filterMap (xs[·]?)).length<=_
  lia
 have hf:=I4.hok.fresh (Nat.le_refl _)
 refine⟨.ref _,_,I4.laid (t':=s3.toks) (o:=.lst (stepA xs k i)) (λb ob q=>get?_push_of_some _ q) (Nat.le_refl _) ?_,rfl,q _ _ hf (Same.new hf) upd_same⟩
 exact⟨Nat.le_trans hle hz,_,0,vals_pick rv (sliceRange (max 0 (min k xs.length)) xs.length i),get?_push_size _ rfl⟩
end
section
variable {K:Frag}
theorem Reps.stepA {F:Hp}{ds:List D}{vs:List V}(h:Reps K F ds vs)(a c:Int):Reps K F (L2.stepA ds a c) (L2.stepA vs a c):=by
 unfold L2.stepA
 rw[h.length]
 exact h.pick _
theorem sO_slSA {ta tl tc:TE}{Ea El Ec:DE}(ha:SimF K ta Ea)(hl:SimB K tl El)(hc:SimB K tc Ec):SimO K (tStepA (rStepA K) ta tl tc) (dSlSA Ea El Ec):=λF0 H0 F H O M P Q e w q=>
 ha F0 H0 F H O M _ _ e w λx v F1 H1 w1 x1 r1=>hl F0 H0 F1 H1 O M _ _ (e.on x1) w1 λl u F2 H2 w2 x2 r2=>hc F0 H0 F2 H2 O M _ _ (e.on (x1.trans x2)) w2 λc u' F3 H3 w3 x3 r3=>by
  have x23:=x2.trans x3
  have x13:=x1.trans x23
  split at w3
  .obtain ⟨⟨a0,c0⟩,w3⟩:=w3
   obtain⟨p,vs,rfl,h1,h2⟩:=r1.mono x23.ff
   exact⟨_,_,r2,r3,p,vs,rfl,x3.fh.seq h1,a0,c0,λl' H' l0 sm l1=>q _ _ F3 H' w3 (x13.trans (Ext.grow x3.fh sm)) (RepN.list (x13.hh.free l0) (x3.fh.free l0) l1 (h2.stepA _ _))⟩
  .exact w3.elim
end
def g1 {α:Type}(l r:List α):List α->List α->List α
 | [a],[b]=>a::(l++b::r)
 |_,_=>[]
section
variable {P:Program}{w:World}{K:Frag}{mg:Str->Option Value}{base:Heap}{x:Str}{k:Nat}{ps:List Str}{sp:Sp}{d0 d1:V}
end
section
variable {X:Cx}{x:Str}{k:Nat}{ps:List Str}{sp:Sp}{d0 d1:V}{e c:Expr}{t tk:TA}{p pos kp:Pos}{nm:Str}
end
section
variable {K:Frag}
end
section
variable {K:Frag}
end
section
variable {K:Frag}{F0 H0 F H F' H':Hp}{O:St}{M:Dst}{A:Nat->List Addr}{i:Nat}
end
section
variable {K:Frag}{c f m c2:Str}{ns ns2:List Str}{i j:Nat}
end
end L2
namespace PySem
section
variable {prog:Program}{w:World}{A:Around}{R:Result->Shared->Prop}{I:Addr}{fp wr:List Addr}{G:Array GenState->Array GenState->Prop}{n:Nat}{P:Nat->Value->Prop}{St:Nat->Shared->Prop}
end
section
variable {prog:Program}{w:World}{A:Around}{E:Value->Shared->Prop}{s:Shared}
end
end PySem
namespace L2
open PySem PySem.Spec PyProof.Rows
section
variable {X:Cx}
end
section
variable {K:Frag}{c f:Str}{ns:List Str}{i j:Nat}
end
end L2
namespace PySem.W
open PySem PySem.Spec PySem.Calls PyProof.Rows Builtin Builtin.ObjectAttr Builtin.Getset_descriptor
section
variable {prog:Program}{w:World}{A:Around}{E:Value->Shared->Prop}{s:Shared}{K:Frag}{x D:Addr}{ox:Obj}
end
end PySem.W
namespace L2
open PySem PySem.Spec PyProof.Rows PyProof.V PySem.W
section
variable {X:Cx}
end
section
variable {K:Frag}{F0 H0:Hp}{t u:TS}{T U:DS}
end
section
variable {P:Program}{w:World}{K:Frag}{mg:Str->Option Value}{base:Heap}{N:List Str}{qual:Str}{scope:Scope}{f:Addr}{cd:Value}{A:Around}{outer:List Env}{s:Shared}{H:Hp}{E:XK}
end
section
variable {K:Frag}{F0 H0 F H:Hp}{O:St}{M:Dst}{A:Nat->List Addr}
end
open PySem PySem.Spec PyProof.Rows
section
variable {X:Cx}{K:Frag}
end
open PySem PySem.Spec PyProof.Rows PyProof.V PySem.W
section
variable {X:Cx}
end
section
variable {K:Frag}{X:Cx}
end
section
variable {δ:Model}{A:Around}{E:Value->Shared->Prop}{s:Shared}
end
section
variable {P:Program}{w:World}{K:Frag}{mg:Str->Option Value}{base:Heap}{N:List Str}{qual:Str}{scope:Scope}{f:Addr}{cd:Value}{A:Around}{outer:List Env}{s:Shared}{H:Hp}{E:XK}
end
section
variable {P:Program}{w:World}{K:Frag}{mg:Str->Option Value}{base:Heap}{N0:List Str}{qual:Str}{scope0:Scope}{f:Addr}{cd:Value}{A:Around}{outer:List Env}{s0:Shared}{H0:Hp}{E:XK}
variable {X:Cx}{tg iter e:Expr}{es:List Expr}{scope:Scope}{N:List Str}{ix:List (Option Nat)}{wi:TI}{g:TG}{ta:TA}{pos p cpos:Pos}{x:Str}{k:Nat}{ps:List Str}{sp:Sp}
end
def SimOx (K:Frag)(F0 H0:Hp)(t:TE)(E:DO):Prop:=∀F H O M P Q,EnvR K F0 H0 F H O M->E M P->(∀r v F' H',P r->Ext F H F' H'->RepN K H F' H' r v->Q v H')->t O H Q
section
variable {K:Frag}{F0 H0:Hp}
end
open PySem PySem.Spec PyProof.Rows
section
variable {X:Cx}{K:Frag}
end
open PySem PySem.Spec PyProof.Rows PyProof.V PySem.W
section
variable {K:Frag}{h:Heap}{mg:Str->Option Value}{x m q c:Str}{st:Stmt}{f T C:Addr}{od an odT:Option Addr}{sl slT:Array (Option Value)}{oc kV dc pm cd ct ocT:Value}{nT:Nat}{ds:Array Value}
theorem dmk (X:K.In h)(G:h.Ns mainGlobals mg)(a:nsIn K mainGlobals x=some (some (.ref f)):=by k_is)(l:K.lookup f=some ⟨oc,od,.func (fnOf x x (defArgs st) (defBody st) (defScope st) .none kV dc pm an cd ct),sl⟩:=by k_is)(d:codeIn K cd x=true:=by k_is)(k:keepIn K (.ref f)=true:=by k_is):
  DefAt K mg x st f (fnOf x x (defArgs st) (defBody st) (defScope st) .none kV dc pm an cd ct):=⟨fun_mk l d k,mg_of X G a⟩
theorem dmkD (X:K.In h)(G:h.Ns mainGlobals mg)(a:nsIn K mainGlobals x=some (some (.ref f)):=by k_is)(l:K.lookup f=some ⟨oc,od,.func (fnOf x x (defArgs st) (defBody st) (defScope st) (.ref T) kV dc pm an cd ct),sl⟩:=by k_is)(d:codeIn K cd x=true:=by k_is)(k:keepIn K (.ref f)=true:=by k_is)(dl:K.lookup T=some ⟨ocT,odT,.seq ds nT,slT⟩:=by k_is):
  DefAtD K mg x st f (fnOf x x (defArgs st) (defBody st) (defScope st) (.ref T) kV dc pm an cd ct) T ds:=⟨⟨_,_,_,_,_,_,_,_,_,rfl,l,d⟩,⟨_,_,dl,rfl⟩,k,mg_of X G a⟩
theorem dnm (X:K.In h)(G:h.Ns mainGlobals mg)(a:nsIn K mainGlobals x=some (some (.ref f)):=by k_is): NsOf K mg x:=⟨_,a,mg_of X G a⟩
theorem mz (X:K.In h)(G:h.Ns mainGlobals mg)(e:nsIn K mainGlobals n=some none:=by k_is): mg n=none:=PySem.W.mg_none_of X G e
theorem mv (X:K.In h)(G:h.Ns mainGlobals mg)(e:nsIn K mainGlobals n=some (some v):=by k_is): mg n=some v:=mg_of X G e
theorem lawF (Df:DefAt K mg x st f fd)(hb:∀(s:Shared) (v:Value),BindsTo s fd ⟨[v],[]⟩ [("_law_script",v)])(hc:∀base:Heap,K.In base->base.Ns mainGlobals mg->FnOk P w K mg base CX0 k f fd ["_law_script"] sp):
  ∃fd:FuncData,(∀(s:Shared) (v:Value),BindsTo s fd ⟨[v],[]⟩ [("_law_script",v)])/\∀base:Heap,K.In base->base.Ns mainGlobals mg->FnOk P w K mg base CX0 k f fd ["_law_script"] sp:=⟨fd,hb,hc⟩
end
section
variable {K:Frag}
end
section
variable {X:Cx}
end
section
variable {K:Frag}
end
section
variable {K:Frag}
end
section
variable {X:Cx}
end
section
variable {P:Program}{w:World}{K:Frag}{mg:Str->Option Value}{base:Heap}{c m q:Str}{ns:List Str}{st:Stmt}{f:Addr}{fd:FuncData}{N ps:List Str}{k n:Nat}
end
section
variable {K:Frag}
end
end L2
namespace PySem
open Builtin
end PySem
namespace L2
open PySem PySem.Spec PyProof.Rows PyProof.V PySem.W
section
variable {X:Cx}
end
section
variable {K:Frag}
end
section
variable {P:Program}{w:World}{K:Frag}{mg:Str->Option Value}{base:Heap}{N:List Str}
end
section
variable {X:Cx}
end
section
variable {K:Frag}{te ti:TE}{Eo:DO}{Ei:DE}
end
section
variable {X:Cx}
end
section
variable {K:Frag}
end
section
variable {P:Program}{w:World}{K:Frag}{mg:Str->Option Value}{base:Heap}{N:List Str}{qual:Str}{scope:Scope}{f:Addr}{cd:Value}{A:Around}{outer:List Env}{s:Shared}{H:Hp}{E:XK}
end
section
variable {K:Frag}{F0 H0:Hp}{t ta tc:TE}{Ec:DO}{Ea:DE}
theorem sP_o {E:DO}(h:SimO K t E):SimOx K F0 H0 t E:=h F0 H0
end
section
variable {P:Program}{w:World}{K:Frag}{mg:Str->Option Value}{base:Heap}{N0:List Str}{qual:Str}{scope0:Scope}{f:Addr}{cd:Value}{A:Around}{outer:List Env}{s0:Shared}{H0:Hp}{E:XK}
variable {X:Cx}{tg iter e:Expr}{es:List Expr}{scope:Scope}{N:List Str}{ix:List (Option Nat)}{wi:TI}{g:TG}{ta:TA}{pos p cpos:Pos}{x:Str}{k:Nat}{ps:List Str}{sp:Sp}
end
section
variable {K:Frag}{ti:TE}{Ei:DE}
end
section
variable {K:Frag}{c:Str}{ns:List Str}{i:Nat}
end
structure DER where
 nx:Dst->Prop
 rt:D->Dst->Prop
 xr:Str->Dst->Prop
abbrev DSR:=DER->Dst->Prop
section
variable {K:Frag}{F0 H0:Hp}{E:XK}{t u:TS}{T U:DSR}
end
section
variable {P:Program}{w:World}{K:Frag}{mg:Str->Option Value}{base:Heap}{c m q:Str}{ns:List Str}{st:Stmt}{f:Addr}{fd:FuncData}{N ps:List Str}{k n:Nat}
end
abbrev DEf:=Dst->(D->Dst->Prop)->Prop
abbrev DTf:=Dst->(Bool->Dst->Prop)->Prop
section
variable {K:Frag}{ta tb:TE}{Ea Eb:DEf}{Eb':DE}{ua ub:TT}{Ca Cb:DTf}{t u:TS}{T U:DS}
end
section
variable {X:Cx}
end
section
variable {K:Frag}
end
section
variable {P:Program}{w:World}{K:Frag}{mg:Str->Option Value}{base:Heap}{c m q:Str}{ns:List Str}{st:Stmt}{f:Addr}{fd:FuncData}{N ps:List Str}{k n:Nat}
end
section
variable {K:Frag}{h:Heap}{mg:Str->Option Value}{c wx:Str}{C W:Addr}
theorem t2 (l:K.lookup x=some ⟨.type "tuple",o,.seq #[.int p tp,.int q tq] n,sl⟩)(F:Hp): Rep K F (.tup [.int p,.int q]) (.ref x):=⟨_,[.int p,.int q],rfl,.inr ⟨_,_,_,l,rfl,rfl,sz_le (show 2<=1000000 by decide),.cons ⟨_,rfl⟩ (.cons ⟨_,rfl⟩ (.nil))⟩,⟨_,_,rfl,rfl,⟨_,_,rfl,rfl,rfl⟩⟩⟩
end
theorem KitV.of2 {K:Frag}{h:Heap}(X:K.In h)(h:∀d∈[D.int 0,.bl true,.non,.str Str.empty,.tup [],.lst [],.dic],∀n∈kitNs,kitOne K (.type d.tyN) (.type n)=some (kitB d n)):KitV K:=by
 refine⟨λd ⟨hd,hd2,hd3⟩ n hn=>?_⟩
 cases d with
 |ty m=>exact absurd rfl (hd m)
 |fn m=>exact absurd rfl (hd2 m)
 |exc m=>exact absurd rfl (hd3.1 m)
 |obj c ns ds=>exact absurd rfl (hd3.2.1 c ns ds)
 |clo q1 q2 q3 q4=>exact absurd rfl (hd3.2.2 q1 q2 q3 q4)
 |int _=>exact h (.int 0) (by simp) n hn
 |bl _=>exact h (.bl true) (by simp) n hn
 |non=>exact h .non (by simp) n hn
 |str _=>exact h (.str Str.empty) (by simp) n hn
 |tup _=>exact h (.tup []) (by simp) n hn
 |lst _=>exact h (.lst []) (by simp) n hn
 |dic=>exact h .dic (by simp) n hn
section
variable {P:Program}{w:World}{C:List Addr}{T H H':Hp}{h:Heap}
variable {outer:List Env}{s s':Shared}{Q:VK}{u:Value}
variable {K:Frag}{mg:Str->Option Value}{base:Heap}{A:Around}
end
section
variable {P:Program}{w:World}{K:Frag}{mg:Str->Option Value}{base:Heap}{N fs ps:List Str}{q:Str}{st:Stmt}{k:Nat}{sp:Sp}
end
section
variable {X:Cx}{cl:List (Str×Addr)}{ix:List Nat}{pins:List (Addr×Obj)}{O:St}{H:Hp}{s:Shared}{ws:List V}
end
section
variable {X:Cx}
end
section
variable {K:Frag}{F0 H0 F H:Hp}{O:St}{M:Dst}
end
section
variable {K:Frag}{F0 H0:Hp}{te ta tb:TE}{t u:TS}{T U:DS}{a:TA}{As:DA}{E Ea Eb:DE}{n:Nat}{sp:DSp}
end
section
variable {P:Program}{w:World}{K:Frag}{mg:Str->Option Value}{base:Heap}{x q:Str}{st:Stmt}{f c T:Addr}{fd:FuncData}{pos:Pos}{N ps fs:List Str}{k n:Nat}{sp:DSp}
end
section
variable {P:Program}{w:World}{K:Frag}{mg:Str->Option Value}{base:Heap}{N fs ps:List Str}{q:Str}{ar:Arguments}{bd:Expr}{sc:Scope}{k:Nat}{sp:Sp}
end
section
variable {X:Cx}
end
section
variable {K:Frag}{F0 H0:Hp}{c c':TT}{C C':DT}
end
open PySem PyProof.Rows
def SFr (xs:Array Keyed)(lo hi:Nat):Prop:=∀i j,lo<=i->i<=j->j<hi->K xs i<=K xs j
def SDn (xs:Array Keyed)(lo hi:Nat):Prop:=∀i j,lo<=i->i<=j->j<hi->K xs j<=K xs i
theorem SFr.snoc {xs:Array Keyed}{lo x:Nat}(h:SFr xs lo (lo+x))(hx:1<=x)(hl:¬ K xs (lo+x)<K xs (lo+x-1)):SFr xs lo (lo+(x+1)):=λi j a1 a2 a3=>by
 by_cases hj:j<lo+x
 .exact h i j a1 a2 hj
 obtain rfl:j=lo+x:=by omega
 by_cases hi:i=lo+x
 .rw [hi];exact Int.le_refl _
 .exact Int.le_trans (h i (lo+x-1) a1 (by omega) (by omega)) (not_lt.mp hl)
theorem SDn.snoc {xs:Array Keyed}{lo x:Nat}(h:SDn xs lo (lo+x))(hx:1<=x)(hl:K xs (lo+x)<=K xs (lo+x-1)):SDn xs lo (lo+(x+1)):=λi j a1 a2 a3=>by
 by_cases hj:j<lo+x
 .exact h i j a1 a2 hj
 obtain rfl:j=lo+x:=by omega
 by_cases hi:i=lo+x
 .rw [hi];exact Int.le_refl _
 .exact Int.le_trans hl (h i (lo+x-1) a1 (by omega) (by omega))
structure SD (a₀:Array Keyed) (st:SortSt):Prop where
 perm:(arrOf st).Perm a₀
 kind:kindOf st=oneType'
 ik:IntKeys a₀
 nd:(a₀.toList.map λp=>numOf p.1).Nodup
section
variable {a₀:Array Keyed}{st:SortSt}
theorem SD.size (h:SD a₀ st):(arrOf st).size=a₀.size:=h.perm.size_eq
theorem SD.setA (h:SD a₀ st){xs:Array Keyed}(hp:xs.Perm (arrOf st)):SD a₀ (setArr st xs):=⟨hp.trans h.perm,h.kind,h.ik,h.nd⟩
theorem SD.get (h:SD a₀ st){i:Nat}(hi:i<a₀.size):∃t q,(arrOf st)[i]?=some (.int (K (arrOf st) i) t,q):=
 (show SBase a₀ (SortSt.mk' (kindOf st) (arrOf st) #[] (gallopOf st) none) from⟨h.perm,h.kind,rfl,rfl⟩).at h.ik hi
theorem SD.ne (h:SD a₀ st){i j:Nat}(hi:i<a₀.size)(hj:j<a₀.size)(e:K (arrOf st) i=K (arrOf st) j):i=j:=by
 have n:((arrOf st).toList.map λp=>numOf p.1).Nodup:=((Array.perm_iff_toList_perm.mp h.perm).map _).nodup_iff.mpr h.nd
 have hi':i<(arrOf st).size:=by rw[h.size];exact hi
 have hj':j<(arrOf st).size:=by rw[h.size];exact hj
 rw[K_eq hi',K_eq hj']at e
 refine (List.getElem_inj (h₀:=by simpa using hi') (h₁:=by simpa using hj') n).mp ?_
 simpa using e
end
section
variable {prog:Program}{w:World}{A:Around}{E:Value->Shared->Prop}{s:Shared}{a₀:Array Keyed}{st:SortSt}
theorem wpS_ltD {i j:Nat}{Q:Option Bool->SortSt->Prop}(h:SD a₀ st)(hi:i<a₀.size)(hj:j<a₀.size)(q:Q (some (decide (K (arrOf st) i<K (arrOf st) j))) st):wpS (model prog w) A E s (ltAt' i j) Q st:=by
 obtain⟨t,p,e1⟩:=h.get hi
 obtain⟨u,r,e2⟩:=h.get hj
 exact wpS_ltAt h.kind e1 e2 q
theorem wpS_cr {lo nrem:Nat}{Q:Option Nat->SortSt->Prop}(h:SD a₀ st)(hn:lo+nrem<=a₀.size)(h1:1<=nrem)
  (q:∀m xs,xs.Perm (arrOf st)->(∀k,k<lo->K xs k=K (arrOf st) k)->1<=m->m<=nrem->SFr xs lo (lo+m)->Q (some m) (setArr st xs)):wpS (model prog w) A E s (countRun' lo nrem) Q st:=by
 rw[countRun'_eq]
 refine wpS_bind (wpS_mono (wpS_forRange (I:=λx c st'=>st'=st/\c=(none,x)/\SFr (arrOf st) lo (lo+x)) (Q:=λc st'=>∃n,st'=st/\c=(none,n)/\1<=n/\n<=nrem/\SFr (arrOf st) lo (lo+n)/\(n=nrem∨K (arrOf st) (lo+n)<K (arrOf st) (lo+n-1))) ?a ?b ?c) ?d)
 case c=>exact⟨rfl,rfl,λi j a1 a2 a3=>by rw[show i=j by omega];exact Int.le_refl _⟩
 case b=>
  rintro c st' ⟨rfl,rfl,hs⟩
  rw[show max 1 nrem=nrem by omega]at hs ⊢
  exact⟨nrem,rfl,rfl,h1,Nat.le_refl _,hs,.inl rfl⟩
 case a=>
  rintro x c st' hx1 hx2 ⟨rfl,rfl,hs⟩
  refine wpS_bind (wpS_ltD h (by omega) (by omega) ?_)
  dsimp only
  by_cases hl:K (arrOf st') (lo+x)<K (arrOf st') (lo+x-1)
  .rw [decide_eq_true hl,if_pos rfl]
   exact wpS_pure ⟨x,rfl,rfl,hx1,by omega,hs,.inr hl⟩
  .rw [decide_eq_false hl,if_neg (by decide)]
   exact wpS_pure ⟨rfl,rfl,hs.snoc (by omega) hl⟩
 case d=>
  rintro c st' ⟨n,rfl,rfl,hn1,hn2,hs,hor⟩
  dsimp only
  by_cases hnn:n=nrem
  .rw [if_pos (by simpa using hnn)]
   exact wpS_pure (q n _ (Array.Perm.refl _) (λ_ _=>rfl) hn1 hn2 hs)
  rw[if_neg (by simpa using hnn)]
  have hlt:=hor.resolve_left hnn
  by_cases hgt:n > 1
  .rw [if_pos hgt]
   refine wpS_bind (wpS_ltD h (by omega) (by omega) ?_)
   dsimp only
   have hr:K (arrOf st') lo<K (arrOf st') (lo+n-1):=by
    have h2:=hs lo (lo+n-1) (by omega) (by omega) (by omega)
    rcases Int.lt_or_eq_of_le h2 with z |z
    .exact z
    .have:=h.ne (by omega) (by omega) z
     omega
   rw[decide_eq_true hr,if_pos rfl]
   exact wpS_pure (q n _ (Array.Perm.refl _) (λ_ _=>rfl) hn1 hn2 hs)
  rw[if_neg hgt]
  obtain rfl:n=1:=by omega
  refine wpS_bind (wpS_lift (wpAny_rule ⟨rfl,?_⟩))
  refine wpS_bind (wpS_mono (wpS_forRange (I:=λx c st2=>st2=st'/\c=(none,x,0)/\SDn (arrOf st') lo (lo+x)) (Q:=λc st2=>∃n,st2=st'/\c=(none,n,0)/\2<=n/\n<=nrem/\SDn (arrOf st') lo (lo+n)) ?a2 ?b2 ?c2) ?d2)
  case c2=>
   refine⟨rfl,rfl,λi j a1 a2 a3=>?_⟩
   by_cases z:i=j
   .rw [z];exact Int.le_refl _
   .rw [show i=lo+1-1 by omega,show j=lo+1 by omega];exact Int.le_of_lt hlt
  case b2=>
   rintro c st2 ⟨rfl,rfl,hs2⟩
   rw[show max (1+1) nrem=nrem by omega]at hs2 ⊢
   exact⟨nrem,rfl,rfl,by omega,Nat.le_refl _,hs2⟩
  case a2 =>
   rintro x c st2 hx1 hx2 ⟨rfl,rfl,hs2⟩
   dsimp only
   refine wpS_bind (wpS_ltD h (by omega) (by omega) ?_)
   dsimp only
   by_cases hl:K (arrOf st2) (lo+x)<K (arrOf st2) (lo+x-1)
   .rw [decide_eq_true hl,if_pos rfl,if_neg (by decide)]
    exact wpS_pure ⟨rfl,rfl,hs2.snoc (by omega) (Int.le_of_lt hl)⟩
   .rw [decide_eq_false hl,if_neg (by decide)]
    refine wpS_bind (wpS_ltD h (by omega) (by omega) ?_)
    have hl2:K (arrOf st2) (lo+x-1)<K (arrOf st2) (lo+x):=by
     rcases Int.lt_or_eq_of_le (not_lt.mp hl) with z |z
     .exact z
     .have:=h.ne (by omega) (by omega) z
      omega
    rw[decide_eq_true hl2]
    dsimp only
    rw[if_pos rfl]
    exact wpS_pure ⟨x,rfl,rfl,by omega,by omega,hs2⟩
  case d2=>
   rintro c st2 ⟨n,rfl,rfl,hn1,hn2,hs2⟩
   dsimp only
   rw[if_neg (by decide)]
   refine wpS_bind (wpS_reverse ?_)
   have hsz:lo+n<=(arrOf st2).size:=by rw[h.size];omega
   have hp:=mirror_perm (arrOf st2) lo (lo+n) ((lo+n-lo) / 2)
   have hK:∀k,K (mirror (arrOf st2) lo (lo+n) ((lo+n-lo) / 2)) k=_:=λk=>K_mirror hsz k
   generalize mirror (arrOf st2) lo (lo+n) ((lo+n-lo) / 2)=xs at hp hK
   have h':SD a₀ (setArr st2 xs):=h.setA hp
   have hs3:SFr xs lo (lo+n):=λi j a1 a2 a3=>by
    rw[hK,hK,if_pos ⟨a1,by omega⟩,if_pos ⟨by omega,a3⟩]
    exact hs2 _ _ (by omega) (by omega) (by omega)
   have hkp:∀k,k<lo->K xs k=K (arrOf st2) k:=λk hk=>by rw[hK,if_neg (by omega)]
   refine wpS_bind (wpS_mono (wpS_forRange (I:=λx c st'=>st'=setArr st2 xs/\c=(none,x)/\SFr xs lo (lo+x)) (Q:=λc st'=>∃n,st'=setArr st2 xs/\c=(none,n)/\1<=n/\n<=nrem/\SFr xs lo (lo+n)) ?a3 ?b3 ⟨rfl,rfl,hs3⟩) ?d3)
   case b3=>
    rintro c st' ⟨rfl,rfl,hs⟩
    rw[show max n nrem=nrem by omega]at hs ⊢
    exact⟨nrem,rfl,rfl,h1,Nat.le_refl _,hs⟩
   case a3=>
    rintro x c st' hx1 hx2 ⟨rfl,rfl,hs⟩
    refine wpS_bind (wpS_ltD h' (by omega) (by omega) ?_)
    dsimp only
    by_cases hl:K xs (lo+x)<K xs (lo+x-1)
    .rw [decide_eq_true hl,if_pos rfl]
     exact wpS_pure ⟨x,rfl,rfl,by omega,by omega,hs⟩
    .rw [decide_eq_false hl,if_neg (by decide)]
     exact wpS_pure ⟨rfl,rfl,hs.snoc (by omega) hl⟩
   case d3=>
    rintro c st' ⟨m,rfl,rfl,hm1,hm2,hs⟩
    exact wpS_pure (q m xs hp hkp hm1 hm2 hs)
structure SrP (a₀:Array Keyed) (st:SortSt) (lo k:Nat) (xs:Array Keyed):Prop where
 perm:xs.Perm (arrOf st)
 pre:∀i,i<lo->K xs i=K (arrOf st) i
 srt:SFr xs lo (lo+k)
theorem wpS_bs {lo n ok:Nat}{Q:Bool->SortSt->Prop}(h:SD a₀ st)(hn:lo+n<=a₀.size)(hok:ok<=n)(hs:SFr (arrOf st) lo (lo+ok))
  (q:∀xs,SrP a₀ st lo n xs->Q true (setArr st xs)):wpS (model prog w) A E s (binarySort' lo n ok) Q st:=by
 rw[binarySort'_eq]
 refine wpS_bind (wpS_mono (wpS_forRange (I:=λk c st'=>c=(none,())/\∃xs,st'=setArr st xs/\SrP a₀ st lo (min k n) xs) (Q:=λc st'=>c=(none,())/\∃xs,st'=setArr st xs/\SrP a₀ st lo n xs) ?a ?b ?c) ?d)
 case d=>
  rintro c st' ⟨rfl,xs,rfl,z⟩
  exact wpS_pure (q xs z)
 case c=>
  refine⟨rfl,arrOf st,rfl,Array.Perm.refl _,λ_ _=>rfl,λi j a1 a2 a3=>?_⟩
  by_cases z:i=j
  .rw [z];exact Int.le_refl _
  .exact hs i j a1 a2 (by omega)
 case b=>
  rintro c st' ⟨hc,xs,rfl,z⟩
  rw[show min (max (max ok 1) n) n=n by omega]at z
  exact⟨hc,xs,rfl,z⟩
 case a=>
  rintro k c st' hk1 hk2 ⟨rfl,xs,rfl,z⟩
  rw[show min k n=k by omega]at z
  have h':SD a₀ (setArr st xs):=h.setA z.perm
  have hss:=z.srt
  refine wpS_bind (wpS_mono (wpS_forRange (I:=λx c st2=>st2=setArr st xs/\∃l r,c=(none,l,r)/\l<=r/\r<=k/\r-l<=k-x/\(∀i,i<l->K xs (lo+i)<=K xs (lo+k))/\∀i,r<=i->i<k->K xs (lo+k)<K xs (lo+i))
   (Q:=λc st2=>st2=setArr st xs/\∃l r,c=(none,l,r)/\l<=k/\(∀i,i<l->K xs (lo+i)<=K xs (lo+k))/\∀i,l<=i->i<k->K xs (lo+k)<K xs (lo+i)) ?a2 ?b2 ?c2) ?d2)
  case c2=>exact⟨rfl,0,k,rfl,by omega,by omega,by omega,λi hi=>by omega,λi _ _=>by omega⟩
  case b2=>
   rintro c st2 ⟨rfl,l,r,rfl,b1,b2,b3,b4,b5⟩
   obtain rfl:l=r:=by omega
   exact⟨rfl,l,l,rfl,b2,b4,b5⟩
  case a2=>
   rintro x c st2 _ hx ⟨rfl,l,r,rfl,b1,b2,b3,b4,b5⟩
   dsimp only
   by_cases hge:l>=r
   .rw [if_pos hge]
    obtain rfl:l=r:=by omega
    exact wpS_pure ⟨rfl,l,l,rfl,b2,b4,b5⟩
   rw[if_neg hge]
   refine wpS_bind (wpS_ltD h' (by omega) (by omega) ?_)
   dsimp only
   by_cases hl:K xs (lo+k)<K xs (lo+(l+r) / 2)
   .rw [decide_eq_true hl,if_pos rfl]
    exact wpS_pure ⟨rfl,l,(l+r) / 2,rfl,by omega,by omega,by omega,b4,λi a1 a2=>Int.lt_of_lt_of_le hl (hss _ _ (by omega) (by omega) (by omega))⟩
   .rw [decide_eq_false hl,if_neg (by decide)]
    exact wpS_pure ⟨rfl,(l+r) / 2+1,r,rfl,by omega,by omega,by omega,λi a1=>Int.le_trans (hss (lo+i) (lo+(l+r) / 2) (by omega) (by omega) (by omega)) (not_lt.mp hl),b5⟩
  case d2=>
   rintro c st2 ⟨rfl,l,r,rfl,b1,b4,b5⟩
   show wpS _ _ _ _ (do moveDown' (lo+k) (lo+l);pure (ForInStep.yield (none,()))) _ _
   rw[moveDown'_eq]
   have hk3:lo+k<xs.size:=by rw[show xs.size=a₀.size from h'.size];omega
   refine wpS_bind (wpS_modify (wpS_pure ⟨rfl,bubble xs (lo+k) (lo+k-(lo+l)),rfl,(bubble_perm _ _ _).trans z.perm,λi hi=>?_,λi j a1 a2 a3=>?_⟩))
   .rw [K_bubble hk3 (by omega),if_neg (by omega),if_neg (by omega)]
    exact z.pre i hi
   .rw [show min (k+1) n=k+1 by omega]at a3
    rw[K_bubble hk3 (by omega),K_bubble hk3 (by omega),show lo+k-(lo+k-(lo+l))=lo+l by omega]
    have lw:∀i,lo<=i->i<lo+l->K xs i<=K xs (lo+k):=λi c1 c2=>by have:=b4 (i-lo) (by omega);rwa[show lo+(i-lo)=i by omega]at this
    have up:∀i,lo+l<=i->i<lo+k->K xs (lo+k)<=K xs i:=λi c1 c2=>by have:=b5 (i-lo) (by omega) (by omega);rw[show lo+(i-lo)=i by omega]at this;exact Int.le_of_lt this
    repeat' split
    all_goals first
     | (exfalso;omega)
     |exact Int.le_refl _
     |exact lw _ (by omega) (by omega)
     |exact up _ (by omega) (by omega)
     |exact hss _ _ (by omega) (by omega) (by omega)
end
def gal:Bool->Keyed->Array Keyed->Nat->Nat->Nat->StateT SortSt Sem (Option Nat):=sortPriv% PySem.Builtin.gallop
def byd (lf:Bool)(ky:Keyed)(ar:Array Keyed)(bs i:Nat):StateT SortSt Sem (Option Bool):=do
 let y <- elem' ar (bs+i)
 if lf then lt' y ky else return (<- lt' ky y).map (!·)
theorem gal_eq (lf:Bool)(ky:Keyed)(ar:Array Keyed)(bs n ht:Nat):gal lf ky ar bs n ht=(do
 let mut lx:=0
 let mut ox:=1
 let mut ll:=0
 let mut hh:=0
 let some r1 <- byd lf ky ar bs ht |return none
 if r1 then
  let mx:=n-ht
  for _ in [0:n] do
   if ox>=mx then break
   let some r2 <- byd lf ky ar bs (ht+ox) |return none
   if !r2 then break
   lx:=ox
   ox:=2*ox+1
  ll:=ht+lx+1
  hh:=ht+min ox mx
 else
  let mx:=ht+1
  for _ in [0:n] do
   if ox>=mx then break
   let some r2 <- byd lf ky ar bs (ht-ox) |return none
   if r2 then break
   lx:=ox
   ox:=2*ox+1
  ll:=ht+1-min ox mx
  hh:=ht-lx
 for _ in [0:n] do
  if ll>=hh then break
  let m:=ll+(hh-ll) / 2
  let some r2 <- byd lf ky ar bs m |return none
  if r2 then ll:=m+1 else hh:=m
 return some hh):=rfl
def Byd (lf:Bool)(ky:Keyed)(ar:Array Keyed)(bs i:Nat):Prop:=if lf=true then K ar (bs+i)<numOf ky.1 else K ar (bs+i)<=numOf ky.1
instance {lf ky ar bs i}:Decidable (Byd lf ky ar bs i):=by unfold Byd;infer_instance
section
variable {prog:Program}{w:World}{A:Around}{E:Value->Shared->Prop}{s:Shared}{st:SortSt}
theorem wpS_ltV {x y:Keyed}{Q:Option Bool->SortSt->Prop}(hk:kindOf st=oneType')(hx:∃n t,x.1 = .int n t)(hy:∃n t,y.1 = .int n t)(q:Q (some (decide (numOf x.1<numOf y.1))) st):wpS (model prog w) A E s (lt' x y) Q st:=by
 obtain⟨a,t,ha⟩:=hx
 obtain⟨b,u,hb⟩:=hy
 rw[lt'_eq]
 refine wpS_bind (wpS_get ?_)
 rw[hk,keyLt'_oneType,ha,hb]
 rw[ha,hb]at q
 exact wpS_bind (wpS_lift (wpAny_attempt (oneLt_int ⟨rfl,wpS_pure q⟩)))
theorem wpS_el {ar:Array Keyed}{i:Nat}{Q:Keyed->SortSt->Prop}(hi:i<ar.size)(q:Q ar[i] st):wpS (model prog w) A E s (elem' ar i) Q st:=by
 rw[elem'_eq,getElem?_pos ar i hi]
 exact wpS_pure q
theorem wpS_byd {lf:Bool}{ky:Keyed}{ar:Array Keyed}{bs i:Nat}{Q:Option Bool->SortSt->Prop}(hk:kindOf st=oneType')(hy:∃n t,ky.1 = .int n t)(hA:IntKeys ar)(hi:bs+i<ar.size)(q:Q (some (decide (Byd lf ky ar bs i))) st):wpS (model prog w) A E s (byd lf ky ar bs i) Q st:=by
 have hx:∃n t,(ar[bs+i]).1 = .int n t:=hA _ (by simp)
 unfold byd
 refine wpS_bind (wpS_el hi ?_)
 cases lf with
 |true=>
  rw[if_pos rfl]
  refine wpS_ltV hk hx hy ?_
  have e:decide (Byd true ky ar bs i)=decide (numOf (ar[bs+i]).1<numOf ky.1):=by unfold Byd;simp only[if_true,K_eq hi]
  rw[e]at q;exact q
 |false=>
  rw[if_neg (by decide)]
  refine wpS_bind (wpS_ltV hk hy hx (wpS_pure ?_))
  have e:decide (Byd false ky ar bs i) = !decide (numOf ky.1<numOf (ar[bs+i]).1):=by
   unfold Byd;simp only[false_eq_true,if_false,K_eq hi]
   rw[<- decide_not];exact decide_eq_decide.mpr not_lt.symm
  rw[e]at q;exact q
theorem wpS_gal {lf:Bool}{ky:Keyed}{ar:Array Keyed}{bs n ht:Nat}{Q:Option Nat->SortSt->Prop}(hk:kindOf st=oneType')(hy:∃n t,ky.1 = .int n t)(hA:IntKeys ar)(hn:bs+n<=ar.size)(hh:ht<n)(hs:SFr ar bs (bs+n))
  (q:∀k,k<=n->(∀i,i<k->Byd lf ky ar bs i)->(∀i,k<=i->i<n->¬ Byd lf ky ar bs i)->Q (some k) st):wpS (model prog w) A E s (gal lf ky ar bs n ht) Q st:=by
 have mon:∀i j,i<=j->j<n->Byd lf ky ar bs j->Byd lf ky ar bs i:=λi j a1 a2 z=>by
  have:=hs (bs+i) (bs+j) (by omega) (by omega) (by omega)
  unfold Byd at z ⊢
  split at z
  .rename_i e;rw[if_pos e];omega
  .rename_i e;rw[if_neg e];omega
 have mon':∀i j,i<=j->j<n->¬ Byd lf ky ar bs i->¬ Byd lf ky ar bs j:=λi j a1 a2 z y=>z (mon i j a1 a2 y)
 rw[gal_eq]
 refine wpS_bind (wpS_byd hk hy hA (by omega) ?_)
 by_cases hb:Byd lf ky ar bs ht
 .rw [decide_eq_true hb]
  dsimp only
  rw[if_pos rfl]
  refine wpS_bind (wpS_mono (wpS_forRange (I:=λx c st'=>st'=st/\∃la o,c=(none,la,o)/\la<o/\x+1<=o/\ht+la<n/\Byd lf ky ar bs (ht+la))
   (Q:=λc st'=>st'=st/\∃la o,c=(none,la,o)/\la<o/\ht+la<n/\Byd lf ky ar bs (ht+la)/\(n-ht<=o∨(o<n-ht/\¬ Byd lf ky ar bs (ht+o)))) ?a ?b ⟨rfl,0,1,rfl,by omega,by omega,hh,hb⟩) ?d)
  case b=>
   rintro c st' ⟨rfl,la,o,rfl,a1,a2,a3,a4⟩
   exact⟨rfl,la,o,rfl,a1,a3,a4,.inl (by omega)⟩
  case a=>
   rintro x c st' _ hx ⟨rfl,la,o,rfl,a1,a2,a3,a4⟩
   dsimp only
   by_cases hge:o>=n-ht
   .rw [if_pos hge]
    exact wpS_pure ⟨rfl,la,o,rfl,a1,a3,a4,.inl hge⟩
   rw[if_neg hge]
   refine wpS_bind (wpS_byd hk hy hA (by omega) ?_)
   by_cases h2:Byd lf ky ar bs (ht+o)
   .rw [decide_eq_true h2]
    dsimp only
    rw[if_neg (by decide)]
    exact wpS_pure ⟨rfl,o,_,rfl,by omega,by omega,by omega,h2⟩
   .rw [decide_eq_false h2]
    dsimp only
    rw[if_pos (by decide)]
    exact wpS_pure ⟨rfl,la,o,rfl,a1,a3,a4,.inr ⟨by omega,h2⟩⟩
  case d=>
   rintro c st' ⟨rfl,la,o,rfl,a1,a3,a4,a5⟩
   have hup:∀i,ht+min o (n-ht)<=i->i<n->¬ Byd lf ky ar bs i:=λi c1 c2=>by
    rcases a5 with a5 | ⟨a5,a6⟩
    .omega
    .exact mon' _ i (by omega) c2 a6
   dsimp only
   refine wpS_bind (wpS_mono (wpS_forRange (I:=λx c st2=>st2=st'/\∃l r,c=(none,l,r)/\l<=r/\r<=n/\r-l<=n-x/\(∀i,i<l->Byd lf ky ar bs i)/\∀i,r<=i->i<n->¬ Byd lf ky ar bs i)
    (Q:=λc st2=>st2=st'/\∃k,c=(none,k,k)/\k<=n/\(∀i,i<k->Byd lf ky ar bs i)/\∀i,k<=i->i<n->¬ Byd lf ky ar bs i) ?a2 ?b2 ⟨rfl,ht+la+1,ht+min o (n-ht),rfl,by omega,by omega,by omega,?u2,?v2⟩) ?d2)
   case u2=>exact λi hi=>mon i _ (by omega) a3 a4
   case v2=>exact hup
   case b2=>
    rintro c st2 ⟨rfl,l,r,rfl,a1,a2,a3,a4,a5⟩
    obtain rfl:l=r:=by omega
    exact⟨rfl,l,rfl,a2,a4,a5⟩
   case d2=>
    rintro c st2 ⟨rfl,k,rfl,a2,a4,a5⟩
    exact wpS_pure (q k a2 a4 a5)
   case a2=>
    rintro x c st2 _ hx ⟨rfl,l,r,rfl,a1,a2,a3,a4,a5⟩
    dsimp only
    by_cases hge:l>=r
    .rw [if_pos hge]
     obtain rfl:l=r:=by omega
     exact wpS_pure ⟨rfl,l,rfl,a2,a4,a5⟩
    rw[if_neg hge]
    refine wpS_bind (wpS_byd hk hy hA (by omega) ?_)
    by_cases hb:Byd lf ky ar bs (l+(r-l) / 2)
    .rw [decide_eq_true hb]
     dsimp only
     rw[if_pos rfl]
     exact wpS_pure ⟨rfl,_,r,rfl,by omega,by omega,by omega,λi hi=>mon i _ (by omega) (by omega) hb,a5⟩
    .rw [decide_eq_false hb]
     dsimp only
     rw[if_neg (by decide)]
     exact wpS_pure ⟨rfl,l,_,rfl,by omega,by omega,by omega,a4,λi c1 c2=>mon' _ i c1 c2 hb⟩
 .rw [decide_eq_false hb]
  dsimp only
  rw[if_neg (by decide)]
  refine wpS_bind (wpS_mono (wpS_forRange (I:=λx c st'=>st'=st/\∃la o,c=(none,la,o)/\la<o/\x+1<=o/\la<=ht/\¬ Byd lf ky ar bs (ht-la))
   (Q:=λc st'=>st'=st/\∃la o,c=(none,la,o)/\la<o/\la<=ht/\¬ Byd lf ky ar bs (ht-la)/\(ht+1<=o∨(o<=ht/\Byd lf ky ar bs (ht-o)))) ?a ?b ⟨rfl,0,1,rfl,by omega,by omega,by omega,hb⟩) ?d)
  case b=>
   rintro c st' ⟨rfl,la,o,rfl,a1,a2,a3,a4⟩
   exact⟨rfl,la,o,rfl,a1,a3,a4,.inl (by omega)⟩
  case a=>
   rintro x c st' _ hx ⟨rfl,la,o,rfl,a1,a2,a3,a4⟩
   dsimp only
   by_cases hge:o>=ht+1
   .rw [if_pos hge]
    exact wpS_pure ⟨rfl,la,o,rfl,a1,a3,a4,.inl hge⟩
   rw[if_neg hge]
   refine wpS_bind (wpS_byd hk hy hA (by omega) ?_)
   by_cases h2:Byd lf ky ar bs (ht-o)
   .rw [decide_eq_true h2]
    dsimp only
    rw[if_pos rfl]
    exact wpS_pure ⟨rfl,la,o,rfl,a1,a3,a4,.inr ⟨by omega,h2⟩⟩
   .rw [decide_eq_false h2]
    dsimp only
    rw[if_neg (by decide)]
    exact wpS_pure ⟨rfl,o,_,rfl,by omega,by omega,by omega,h2⟩
  case d=>
   rintro c st' ⟨rfl,la,o,rfl,a1,a3,a4,a5⟩
   have hlw:∀i,i<ht+1-min o (ht+1)->Byd lf ky ar bs i:=λi hi=>by
    rcases a5 with a5 | ⟨a5,a6⟩
    .omega
    .exact mon i _ (by omega) (by omega) a6
   dsimp only
   refine wpS_bind (wpS_mono (wpS_forRange (I:=λx c st2=>st2=st'/\∃l r,c=(none,l,r)/\l<=r/\r<=n/\r-l<=n-x/\(∀i,i<l->Byd lf ky ar bs i)/\∀i,r<=i->i<n->¬ Byd lf ky ar bs i)
    (Q:=λc st2=>st2=st'/\∃k,c=(none,k,k)/\k<=n/\(∀i,i<k->Byd lf ky ar bs i)/\∀i,k<=i->i<n->¬ Byd lf ky ar bs i) ?a2 ?b2 ⟨rfl,ht+1-min o (ht+1),ht-la,rfl,by omega,by omega,by omega,?u2,?v2⟩) ?d2)
   case u2=>exact hlw
   case v2=>exact λi c1 c2=>mon' _ i c1 c2 a4
   case b2=>
    rintro c st2 ⟨rfl,l,r,rfl,a1,a2,a3,a4,a5⟩
    obtain rfl:l=r:=by omega
    exact⟨rfl,l,rfl,a2,a4,a5⟩
   case d2=>
    rintro c st2 ⟨rfl,k,rfl,a2,a4,a5⟩
    exact wpS_pure (q k a2 a4 a5)
   case a2=>
    rintro x c st2 _ hx ⟨rfl,l,r,rfl,a1,a2,a3,a4,a5⟩
    dsimp only
    by_cases hge:l>=r
    .rw [if_pos hge]
     obtain rfl:l=r:=by omega
     exact wpS_pure ⟨rfl,l,rfl,a2,a4,a5⟩
    rw[if_neg hge]
    refine wpS_bind (wpS_byd hk hy hA (by omega) ?_)
    by_cases hb:Byd lf ky ar bs (l+(r-l) / 2)
    .rw [decide_eq_true hb]
     dsimp only
     rw[if_pos rfl]
     exact wpS_pure ⟨rfl,_,r,rfl,by omega,by omega,by omega,λi hi=>mon i _ (by omega) (by omega) hb,a5⟩
    .rw [decide_eq_false hb]
     dsimp only
     rw[if_neg (by decide)]
     exact wpS_pure ⟨rfl,l,_,rfl,by omega,by omega,by omega,a4,λi c1 c2=>mon' _ i c1 c2 hb⟩
end
abbrev nk (p:Keyed):Int:=numOf p.1
def Asc (l:List Keyed):Prop:=l.Pairwise λp q=>nk p<=nk q
theorem Asc.app {l m:List Keyed}(h1:Asc l)(h2:Asc m)(h:∀x∈l,∀y∈m,nk x<=nk y):Asc (l++m):=pairwise_append.mpr ⟨h1,h2,h⟩
theorem Asc.left {l m:List Keyed}(h:Asc (l++m)):Asc l:=(pairwise_append.mp h).1
theorem Asc.right {l m:List Keyed}(h:Asc (l++m)):Asc m:=(pairwise_append.mp h).2.1
theorem Asc.mid {l m:List Keyed}(h:Asc (l++m)):∀x∈l,∀y∈m,nk x<=nk y:=(pairwise_append.mp h).2.2
theorem Asc.hd {x:Keyed}{l:List Keyed}(h:Asc (x::l)):∀y∈x::l,nk x<=nk y:=λy hy=>by
 rcases mem_cons.mp hy with rfl |z
 .exact Int.le_refl _
 .exact (List.pairwise_cons.mp h).1 y z
theorem asc_fr {a:Array Keyed}(h:Asc a.toList)(lo hi:Nat)(hh:hi<=a.size):SFr a lo hi:=λi j _ a2 a3=>by
 have hj:j<a.size:=by omega
 have hi:i<a.size:=by omega
 rw[K_eq hi,K_eq hj]
 by_cases z:i=j
 .subst z;exact Int.le_refl _
 .have:=List.pairwise_iff_getElem.mp h i j (by simpa using hi) (by simpa using hj) (by omega)
  simpa using this
structure Mg (Z out X Y:List Keyed):Prop where
 srt:Asc out
 le:∀x∈out,∀y∈X++Y,nk x<=nk y
 prm:(out++(X++Y)).Perm Z
 sx:Asc X
 sy:Asc Y
section
variable {Z out P X Y:List Keyed}
theorem Mg.takeX (h:Mg Z out (P++X) Y)(hl:∀p∈P,∀y∈Y,nk p<=nk y):Mg Z (out++P) X Y:=by
 refine⟨h.srt.app h.sx.left λx hx y hy=>h.le x hx y (by simp[hy]),λx hx y hy=>?_,?_,h.sx.right,h.sy⟩
 .rcases mem_append.mp hx with hx |hx
  .refine h.le x hx y ?_
   rcases mem_append.mp hy with hy |hy<;>simp[hy]
  .rcases mem_append.mp hy with hy |hy
   .exact h.sx.mid x hx y hy
   .exact hl x hx y hy
 .have:=h.prm
  simpa[append_assoc] using this
theorem Mg.takeY (h:Mg Z out X (P++Y))(hl:∀p∈P,∀y∈X,nk p<=nk y):Mg Z (out++P) X Y:=by
 refine⟨h.srt.app h.sy.left λx hx y hy=>h.le x hx y (by simp[hy]),λx hx y hy=>?_,?_,h.sx,h.sy.right⟩
 .rcases mem_append.mp hx with hx |hx
  .refine h.le x hx y ?_
   rcases mem_append.mp hy with hy |hy<;>simp[hy]
  .rcases mem_append.mp hy with hy |hy
   .exact hl x hx y hy
   .exact h.sy.mid x hx y hy
 .refine List.Perm.trans ?_ h.prm
  rw[append_assoc]
  refine List.Perm.append_left _ ?_
  rw[<- append_assoc,<- append_assoc]
  exact List.Perm.append_right _ List.perm_append_comm
theorem Mg.endX (h:Mg Z out X []):Asc (out++X)/\(out++X).Perm Z:=⟨h.srt.app h.sx λx hx y hy=>h.le x hx y (by simp[hy]),by simpa using h.prm⟩
theorem Mg.endY (h:Mg Z out [] Y):Asc (out++Y)/\(out++Y).Perm Z:=⟨h.srt.app h.sy λx hx y hy=>h.le x hx y (by simp[hy]),by simpa using h.prm⟩
theorem Mg.endYX (h:Mg Z out X Y)(hl:∀y∈Y,∀x∈X,nk y<=nk x):Asc (out++Y++X)/\(out++Y++X).Perm Z:=by
 have h1:Mg Z out X (Y++[]):=by rw[append_nil];exact h
 exact (h1.takeY hl).endX
end
section
variable {a:Array Keyed}{i k:Nat}
theorem drop1 (hi:i<a.size):a.toList.drop i=[a[i]]++a.toList.drop (i+1):=by
 rw[List.drop_eq_getElem_cons (by simpa using hi)];simp
theorem dropN (hk:i+k<=a.size):a.toList.drop i=(a.extract i (i+k)).toList++a.toList.drop (i+k):=by
 rw[toList_extract,extract_eq_take_drop,Nat.add_sub_cancel_left,<- List.drop_drop,take_append_drop]
theorem extrE (hi:i<=a.size):(a.extract i a.size).toList=a.toList.drop i:=by
 rw[toList_extract,extract_eq_take_drop,take_of_length_le (by simp)]
theorem mem_extr {p:Keyed}(hk:i+k<=a.size)(h:p∈(a.extract i (i+k)).toList):∃t,∃(_:t<k),nk p=K a (i+t):=by
 obtain⟨t,ht,e⟩:=mem_iff_getElem.mp h
 have ht':t<k:=by simp at ht;omega
 refine⟨t,ht',?_⟩
 rw[K_eq (show i+t<a.size by omega),<- e]
 simp
end
def mLo:Array Keyed->Array Keyed->StateT SortSt Sem (Array Keyed):=sortPriv% PySem.Builtin.mergeLo
def setG (g:Nat):StateT SortSt Sem Unit:=modify λz=>SortSt.mk' (kindOf z) (arrOf z) (pendingOf z) g (failedOf z)
theorem mLo_eq (a b:Array Keyed):mLo a b=(do
 liftM (rule "list.sort.merge-lo")
 let tot:=a.size+b.size
 let dn (o:Array Keyed) (i j:Nat):=o++a.extract i a.size++b.extract j b.size
 let la (o:Array Keyed) (i j:Nat):=o++b.extract j b.size++a.extract i a.size
 let mut o:Array Keyed:=#[<- elem' b 0]
 let mut i:=0
 let mut j:=1
 if j==b.size then return dn o i j
 if i+1==a.size then return la o i j
 let mut g:=gallopOf (<- get)
 for _ in [0:tot] do
  let mut ac:=0
  let mut bc:=0
  for _ in [0:tot] do
   let some r <- lt' (<- elem' b j) (<- elem' a i) |return dn o i j
   if r then
    o:=o.push (<- elem' b j);j:=j+1;bc:=bc+1;ac:=0
    if j==b.size then return dn o i j
    if bc>=g then break
   else
    o:=o.push (<- elem' a i);i:=i+1;ac:=ac+1;bc:=0
    if i+1==a.size then return la o i j
    if ac>=g then break
  liftM (rule "list.sort.gallop")
  g:=g+1
  for _ in [0:tot] do
   if g > 1 then g:=g-1
   setG g
   let some k <- gal false (<- elem' b j) a i (a.size-i) 0 |return dn o i j
   ac:=k
   if k > 0 then
    o:=o++a.extract i (i+k);i:=i+k
    if i+1==a.size then return la o i j
    if i==a.size then return dn o i j
   o:=o.push (<- elem' b j);j:=j+1
   if j==b.size then return dn o i j
   let some k <- gal true (<- elem' a i) b j (b.size-j) 0 |return dn o i j
   bc:=k
   if k > 0 then
    o:=o++b.extract j (j+k);j:=j+k
    if j==b.size then return dn o i j
   o:=o.push (<- elem' a i);i:=i+1
   if i+1==a.size then return la o i j
   if ac<7 && bc<7 then break
  g:=g+1
  setG g
 unsupported "internal:list.sort.merge-bound"):=rfl
structure SG (st st':SortSt):Prop where
 arr:arrOf st'=arrOf st
 kind:kindOf st'=kindOf st
 fail:failedOf st'=failedOf st
 pend:pendingOf st'=pendingOf st
theorem SG.refl (st:SortSt):SG st st:=⟨rfl,rfl,rfl,rfl⟩
structure MJ (a b:Array Keyed) (o:Array Keyed) (i j:Nat):Prop where
 mg:Mg (a.toList++b.toList) o.toList (a.toList.drop i) (b.toList.drop j)
 hi:i+1<a.size
 hj:j<b.size
def MR (a b r:Array Keyed):Prop:=Asc r.toList/\r.toList.Perm (a.toList++b.toList)
section
variable {a b o:Array Keyed}{i j k:Nat}
theorem dn_ok (hi:i<=a.size)(hj:j=b.size)(h:Mg (a.toList++b.toList) o.toList (a.toList.drop i) (b.toList.drop j)):MR a b (o++a.extract i a.size++b.extract j b.size):=by
 subst hj
 rw[List.drop_of_length_le (l:=b.toList) (by simp)]at h
 unfold MR
 rw[toList_append,toList_append,extrE hi,extrE (Nat.le_refl _),List.drop_of_length_le (l:=b.toList) (by simp),append_nil]
 exact h.endX
theorem dn_ok2 (hi:i=a.size)(hj:j<=b.size)(h:Mg (a.toList++b.toList) o.toList (a.toList.drop i) (b.toList.drop j)):MR a b (o++a.extract i a.size++b.extract j b.size):=by
 subst hi
 rw[List.drop_of_length_le (l:=a.toList) (by simp)]at h
 unfold MR
 rw[toList_append,toList_append,extrE (Nat.le_refl _),extrE hj,List.drop_of_length_le (l:=a.toList) (by simp),append_nil]
 exact h.endY
theorem la_ok (hi:i+1=a.size)(hj:j<=b.size)(hlast:∀y∈b.toList,∀x∈a.toList.drop (a.size-1),nk y<=nk x)(h:Mg (a.toList++b.toList) o.toList (a.toList.drop i) (b.toList.drop j)):MR a b (o++b.extract j b.size++a.extract i a.size):=by
 unfold MR
 rw[toList_append,toList_append,extrE (a:=b) hj,extrE (a:=a) (by omega)]
 refine h.endYX λy hy x hx=>hlast y (List.mem_of_mem_drop hy) x ?_
 rw[show a.size-1=i by omega];exact hx
theorem mj_b (hi:i<a.size)(hj:j<b.size)(h:Mg (a.toList++b.toList) o.toList (a.toList.drop i) (b.toList.drop j))(hl:nk b[j]<=nk a[i]):Mg (a.toList++b.toList) (o.push b[j]).toList (a.toList.drop i) (b.toList.drop (j+1)):=by
 rw[drop1 hj]at h
 rw[toList_push]
 refine h.takeY λp hp y hy=>?_
 cases mem_singleton.mp hp
 have:=h.sx
 rw[drop1 hi]at this hy
 exact Int.le_trans hl (this.hd y hy)
theorem mj_a (hi:i<a.size)(hj:j<b.size)(h:Mg (a.toList++b.toList) o.toList (a.toList.drop i) (b.toList.drop j))(hl:nk a[i]<=nk b[j]):Mg (a.toList++b.toList) (o.push a[i]).toList (a.toList.drop (i+1)) (b.toList.drop j):=by
 rw[drop1 hi]at h
 rw[toList_push]
 refine h.takeX λp hp y hy=>?_
 cases mem_singleton.mp hp
 have:=h.sy
 rw[drop1 hj]at this hy
 exact Int.le_trans hl (this.hd y hy)
theorem mj_ga (hi:i+k<=a.size)(hj:j<b.size)(h:Mg (a.toList++b.toList) o.toList (a.toList.drop i) (b.toList.drop j))(hl:∀t,t<k->K a (i+t)<=nk b[j]):Mg (a.toList++b.toList) (o++a.extract i (i+k)).toList (a.toList.drop (i+k)) (b.toList.drop j):=by
 rw[dropN hi]at h
 rw[toList_append]
 refine h.takeX λp hp y hy=>?_
 obtain⟨t,ht,e⟩:=mem_extr hi hp
 have:=h.sy
 rw[drop1 hj]at this hy
 rw[e]
 exact Int.le_trans (hl t ht) (this.hd y hy)
theorem mj_gb (hi:i<a.size)(hj:j+k<=b.size)(h:Mg (a.toList++b.toList) o.toList (a.toList.drop i) (b.toList.drop j))(hl:∀t,t<k->K b (j+t)<=nk a[i]):Mg (a.toList++b.toList) (o++b.extract j (j+k)).toList (a.toList.drop i) (b.toList.drop (j+k)):=by
 rw[dropN hj]at h
 rw[toList_append]
 refine h.takeY λp hp y hy=>?_
 obtain⟨t,ht,e⟩:=mem_extr hj hp
 have:=h.sx
 rw[drop1 hi]at this hy
 rw[e]
 exact Int.le_trans (hl t ht) (this.hd y hy)
end
section
variable {prog:Program}{w:World}{A:Around}{E:Value->Shared->Prop}{s:Shared}{st:SortSt}
theorem wpS_setG {g:Nat}{st0:SortSt}{Q:Unit->SortSt->Prop}(h:SG st0 st)(q:∀st',SG st0 st'->Q () st'):wpS (model prog w) A E s (setG g) Q st:=by
 unfold setG
 exact wpS_modify (q _ ⟨h.arr,h.kind,h.fail,h.pend⟩)
theorem wpS_mLo {a b:Array Keyed}{Q:Array Keyed->SortSt->Prop}(hk:kindOf st=oneType')(ha:IntKeys a)(hb:IntKeys b)(sa:Asc a.toList)(sb:Asc b.toList)(na:0<a.size)(nb:0<b.size)
  (h0:nk b[0]<=nk a[0]) (hlast:∀y∈b.toList,∀x∈a.toList.drop (a.size-1),nk y<=nk x) (q:∀r st',SG st st'->MR a b r->Q r st'):wpS (model prog w) A E s (mLo a b) Q st:=by
 rw[mLo_eq]
 refine wpS_bind (wpS_lift (wpAny_rule ⟨rfl,?_⟩))
 have m0:Mg (a.toList++b.toList) (#[]:Array Keyed).toList (a.toList.drop 0) (b.toList.drop 0):=⟨List.Pairwise.nil,λx hx=>by simp at hx,by simp,by simpa using sa,by simpa using sb⟩
 refine wpS_bind (wpS_el nb ?_)
 have m1:=mj_b na nb m0 h0
 have e1:(#[]:Array Keyed).push b[0]=#[b[0]]:=rfl
 rw[e1]at m1
 dsimp only
 by_cases c1:1=b.size
 .rw [if_pos (by simpa using c1)]
  exact wpS_pure (q _ _ (SG.refl _) (dn_ok (by omega) c1 m1))
 rw[if_neg (by simpa using c1)]
 by_cases c2:0+1=a.size
 .rw [if_pos (by simpa using c2)]
  exact wpS_pure (q _ _ (SG.refl _) (la_ok c2 (by omega) hlast m1))
 rw[if_neg (by simpa using c2)]
 refine wpS_bind (wpS_get ?_)
 have lk:∀{st'},SG st st'->kindOf st'=oneType':=λz=>z.kind.trans hk
 have kA:∀(i) (hi:i<a.size),∃n t,(a[i]).1 = .int n t:=λi hi=>ha _ (by simp)
 have kB:∀(i) (hi:i<b.size),∃n t,(b[i]).1 = .int n t:=λi hi=>hb _ (by simp)
 refine wpS_bind (wpS_mono (wpS_forRange (I:=λx c st'=>SG st st'/\∃o i j g,c=(none,o,i,j,g)/\MJ a b o i j/\x+1<=i+j) (Q:=λc st'=>SG st st'/\∃r o i j g,c=(some r,o,i,j,g)/\MR a b r) ?p1 ?p2 ⟨SG.refl _,_,0,1,_,rfl,⟨m1,by omega,by omega⟩,by omega⟩) ?p3)
 case p3=>
  rintro c st' ⟨hg,r,o,i,j,g,rfl,hr⟩
  exact wpS_pure (q r st' hg hr)
 case p2=>
  rintro c st' ⟨hg,o,i,j,g,rfl,hJ,hx⟩
  have:=hJ.hi
  have:=hJ.hj
  exfalso
  omega
 case p1 =>
  rintro x c st' _ hx ⟨hg,o,i,j,g,rfl,hJ,hx1⟩
  dsimp only
  refine wpS_bind (wpS_mono (wpS_forRange (I:=λx c st'=>SG st st'/\∃o' i' j' ac bc,c=(none,o',i',j',ac,bc)/\MJ a b o' i' j'/\i+j+x<=i'+j') (Q:=λc st'=>SG st st'/\((∃r v,c=(some r,v)/\MR a b r)∨∃o' i' j' ac bc,c=(none,o',i',j',ac,bc)/\MJ a b o' i' j'/\i+j+1<=i'+j')) ?a1 ?b1 ⟨hg,o,i,j,0,0,rfl,hJ,Nat.le_refl _⟩) ?d1)
  case b1=>
   rintro c st2 ⟨hg,o,i,j,ac,bc,rfl,hJ,hx⟩
   exact⟨hg,.inr ⟨o,i,j,ac,bc,rfl,hJ,by omega⟩⟩
  case a1=>
   rintro x c st2 _ hx ⟨hg,o,i,j,ac,bc,rfl,hJ,hx2⟩
   dsimp only
   have q1:=hJ.hi
   have q2:=hJ.hj
   refine wpS_bind (wpS_el (by omega) (wpS_bind (wpS_el (by omega) ?_)))
   refine wpS_bind (wpS_ltV (lk hg) (kB _ (by omega)) (kA _ (by omega)) ?_)
   dsimp only
   by_cases hl:nk b[j]<nk a[i]
   .rw [decide_eq_true hl,if_pos rfl]
    refine wpS_bind (wpS_el (by omega) ?_)
    have m3:=mj_b (by omega) (by omega) hJ.mg (Int.le_of_lt hl)
    by_cases c5:j+1=b.size
    .rw [if_pos (by simpa using c5)]
     exact wpS_pure ⟨hg,.inl ⟨_,_,rfl,dn_ok (by omega) c5 m3⟩⟩
    rw[if_neg (by simpa using c5)]
    split
    .exact wpS_pure ⟨hg,.inr ⟨_,_,_,_,_,rfl,⟨m3,by omega,by omega⟩,by omega⟩⟩
    .exact wpS_pure ⟨hg,_,_,_,_,_,rfl,⟨m3,by omega,by omega⟩,by omega⟩
   .rw [decide_eq_false hl,if_neg (by decide)]
    refine wpS_bind (wpS_el (by omega) ?_)
    have m3:=mj_a (by omega) (by omega) hJ.mg (not_lt.mp hl)
    by_cases c5:i+1+1=a.size
    .rw [if_pos (by simpa using c5)]
     exact wpS_pure ⟨hg,.inl ⟨_,_,rfl,la_ok c5 (by omega) hlast m3⟩⟩
    rw[if_neg (by simpa using c5)]
    split
    .exact wpS_pure ⟨hg,.inr ⟨_,_,_,_,_,rfl,⟨m3,by omega,by omega⟩,by omega⟩⟩
    .exact wpS_pure ⟨hg,_,_,_,_,_,rfl,⟨m3,by omega,by omega⟩,by omega⟩
  case d1 =>
   rintro c st2 ⟨hg,⟨r,v,rfl,hr⟩ | ⟨o,i,j,ac,bc,rfl,hJ,hx⟩⟩
   .exact wpS_pure ⟨hg,r,_,_,_,_,rfl,hr⟩
   dsimp only
   refine wpS_bind (wpS_lift (wpAny_rule ⟨rfl,?_⟩))
   refine wpS_bind (wpS_mono (wpS_forRange (I:=λ_ c st'=>SG st st'/\∃o' i' j' g ac bc,c=(none,o',i',j',g,ac,bc)/\MJ a b o' i' j'/\i+j<=i'+j') (Q:=λc st'=>SG st st'/\((∃r v,c=(some r,v)/\MR a b r)∨∃o' i' j' g ac bc,c=(none,o',i',j',g,ac,bc)/\MJ a b o' i' j'/\i+j<=i'+j')) ?a2 ?b2 ⟨hg,o,i,j,_,ac,bc,rfl,hJ,Nat.le_refl _⟩) ?d2)
   case b2=>
    rintro c st2 ⟨hg,o,i,j,g,ac,bc,rfl,hJ,hx⟩
    exact⟨hg,.inr ⟨o,i,j,g,ac,bc,rfl,hJ,hx⟩⟩
   case d2=>
    rintro c st2 ⟨hg,⟨r,v,rfl,hr⟩ | ⟨o,i,j,g,ac,bc,rfl,hJ,hx⟩⟩
    .exact wpS_pure ⟨hg,r,_,_,_,_,rfl,hr⟩
    .exact wpS_bind (wpS_setG hg λst3 hg3=>wpS_pure ⟨hg3,o,i,j,_,rfl,hJ,by omega⟩)
   case a2 =>
    rintro x c st2 _ _ ⟨hg,o,i,j,g,ac,bc,rfl,hJ,hx⟩
    have q1:=hJ.hi
    have q2:=hJ.hj
    dsimp only
    by_cases hgt:g > 1<;>(first |rw[if_pos hgt] |rw[if_neg hgt])
    all_goals
     refine wpS_bind (wpS_setG hg λst3 hg3=>?_)
     refine wpS_bind (wpS_el (by omega) ?_)
     refine wpS_bind (wpS_gal (lk hg3) (kB _ (by omega)) ha (by omega) (by omega) (asc_fr sa _ _ (by omega)) λk e1 e2 e3=>?_)
     dsimp only
     by_cases kp:k > 0
     .rw [if_pos kp]
      have m2:=mj_ga (k:=k) (by omega) (by omega) hJ.mg λt ht=>by simpa[Byd] using e2 t ht
      by_cases c3:i+k+1=a.size
      .rw [if_pos (by simpa using c3)]
       exact wpS_pure ⟨hg3,.inl ⟨_,_,rfl,la_ok c3 (by omega) hlast m2⟩⟩
      rw[if_neg (by simpa using c3)]
      by_cases c4:i+k=a.size
      .rw [if_pos (by simpa using c4)]
       exact wpS_pure ⟨hg3,.inl ⟨_,_,rfl,dn_ok2 c4 (by omega) m2⟩⟩
      rw[if_neg (by simpa using c4)]
      have hl:nk b[j]<=nk a[i+k]:=by
       have:=e3 k (Nat.le_refl _) (by omega)
       have:nk b[j]<nk a[i+k]:=by simpa[Byd,K_eq (show i+k<a.size by omega)] using this
       exact Int.le_of_lt this
      refine wpS_bind (wpS_el (by omega) ?_)
      have m3:=mj_b (by omega) (by omega) m2 hl
      by_cases c5:j+1=b.size
      .rw [if_pos (by simpa using c5)]
       exact wpS_pure ⟨hg3,.inl ⟨_,_,rfl,dn_ok (by omega) c5 m3⟩⟩
      rw[if_neg (by simpa using c5)]
      refine wpS_bind (wpS_el (by omega) ?_)
      refine wpS_bind (wpS_gal (lk hg3) (kA _ (by omega)) hb (by omega) (by omega) (asc_fr sb _ _ (by omega)) λk' f1 f2 f3=>?_)
      dsimp only
      by_cases kq:k' > 0
      .rw [if_pos kq]
       have m4:=mj_gb (k:=k') (by omega) (by omega) m3 λt ht=>Int.le_of_lt (by simpa[Byd] using f2 t ht)
       by_cases c6:j+1+k'=b.size
       .rw [if_pos (by simpa using c6)]
        exact wpS_pure ⟨hg3,.inl ⟨_,_,rfl,dn_ok (by omega) c6 m4⟩⟩
       rw[if_neg (by simpa using c6)]
       have hl2:nk a[i+k]<=nk b[j+1+k']:=by
        have:=f3 k' (Nat.le_refl _) (by omega)
        simpa[Byd,K_eq (show j+1+k'<b.size by omega)] using this
       refine wpS_bind (wpS_el (by omega) ?_)
       have m5:=mj_a (by omega) (by omega) m4 hl2
       by_cases c7:i+k+1+1=a.size
       .rw [if_pos (by simpa using c7)]
        exact wpS_pure ⟨hg3,.inl ⟨_,_,rfl,la_ok c7 (by omega) hlast m5⟩⟩
       rw[if_neg (by simpa using c7)]
       split
       .exact wpS_pure ⟨hg3,.inr ⟨_,_,_,_,_,_,rfl,⟨m5,by omega,by omega⟩,by omega⟩⟩
       .exact wpS_pure ⟨hg3,_,_,_,_,_,_,rfl,⟨m5,by omega,by omega⟩,by omega⟩
      .rw [if_neg kq]
       have hl2:nk a[i+k]<=nk b[j+1]:=by
        have:=f3 0 (by omega) (by omega)
        simpa[Byd,K_eq (show j+1<b.size by omega)] using this
       refine wpS_bind (wpS_el (by omega) ?_)
       have m5:=mj_a (by omega) (by omega) m3 hl2
       by_cases c7:i+k+1+1=a.size
       .rw [if_pos (by simpa using c7)]
        exact wpS_pure ⟨hg3,.inl ⟨_,_,rfl,la_ok c7 (by omega) hlast m5⟩⟩
       rw[if_neg (by simpa using c7)]
       split
       .exact wpS_pure ⟨hg3,.inr ⟨_,_,_,_,_,_,rfl,⟨m5,by omega,by omega⟩,by omega⟩⟩
       .exact wpS_pure ⟨hg3,_,_,_,_,_,_,rfl,⟨m5,by omega,by omega⟩,by omega⟩
     .rw [if_neg kp]
      have hl:nk b[j]<=nk a[i]:=by
       have:=e3 0 (by omega) (by omega)
       have:nk b[j]<nk a[i]:=by simpa[Byd,K_eq (show i<a.size by omega)] using this
       exact Int.le_of_lt this
      refine wpS_bind (wpS_el (by omega) ?_)
      have m3:=mj_b (by omega) (by omega) hJ.mg hl
      by_cases c5:j+1=b.size
      .rw [if_pos (by simpa using c5)]
       exact wpS_pure ⟨hg3,.inl ⟨_,_,rfl,dn_ok (by omega) c5 m3⟩⟩
      rw[if_neg (by simpa using c5)]
      refine wpS_bind (wpS_el (by omega) ?_)
      refine wpS_bind (wpS_gal (lk hg3) (kA _ (by omega)) hb (by omega) (by omega) (asc_fr sb _ _ (by omega)) λk' f1 f2 f3=>?_)
      dsimp only
      by_cases kq:k' > 0
      .rw [if_pos kq]
       have m4:=mj_gb (k:=k') (by omega) (by omega) m3 λt ht=>Int.le_of_lt (by simpa[Byd] using f2 t ht)
       by_cases c6:j+1+k'=b.size
       .rw [if_pos (by simpa using c6)]
        exact wpS_pure ⟨hg3,.inl ⟨_,_,rfl,dn_ok (by omega) c6 m4⟩⟩
       rw[if_neg (by simpa using c6)]
       have hl2:nk a[i]<=nk b[j+1+k']:=by
        have:=f3 k' (Nat.le_refl _) (by omega)
        simpa[Byd,K_eq (show j+1+k'<b.size by omega)] using this
       refine wpS_bind (wpS_el (by omega) ?_)
       have m5:=mj_a (by omega) (by omega) m4 hl2
       by_cases c7:i+1+1=a.size
       .rw [if_pos (by simpa using c7)]
        exact wpS_pure ⟨hg3,.inl ⟨_,_,rfl,la_ok c7 (by omega) hlast m5⟩⟩
       rw[if_neg (by simpa using c7)]
       split
       .exact wpS_pure ⟨hg3,.inr ⟨_,_,_,_,_,_,rfl,⟨m5,by omega,by omega⟩,by omega⟩⟩
       .exact wpS_pure ⟨hg3,_,_,_,_,_,_,rfl,⟨m5,by omega,by omega⟩,by omega⟩
      .rw [if_neg kq]
       have hl2:nk a[i]<=nk b[j+1]:=by
        have:=f3 0 (by omega) (by omega)
        simpa[Byd,K_eq (show j+1<b.size by omega)] using this
       refine wpS_bind (wpS_el (by omega) ?_)
       have m5:=mj_a (by omega) (by omega) m3 hl2
       by_cases c7:i+1+1=a.size
       .rw [if_pos (by simpa using c7)]
        exact wpS_pure ⟨hg3,.inl ⟨_,_,rfl,la_ok c7 (by omega) hlast m5⟩⟩
       rw[if_neg (by simpa using c7)]
       split
       .exact wpS_pure ⟨hg3,.inr ⟨_,_,_,_,_,_,rfl,⟨m5,by omega,by omega⟩,by omega⟩⟩
       .exact wpS_pure ⟨hg3,_,_,_,_,_,_,rfl,⟨m5,by omega,by omega⟩,by omega⟩
end
def mHi:Array Keyed->Array Keyed->StateT SortSt Sem (Array Keyed):=sortPriv% PySem.Builtin.mergeHi
theorem mHi_eq (a b:Array Keyed):mHi a b=(do
 liftM (rule "list.sort.merge-hi")
 let tot:=a.size+b.size
 let dn (o:Array Keyed) (i j:Nat):=a.extract 0 i++b.extract 0 j++o.reverse
 let fb (o:Array Keyed) (i j:Nat):=b.extract 0 j++a.extract 0 i++o.reverse
 let mut i:=a.size-1
 let mut j:=b.size
 let mut o:Array Keyed:=#[<- elem' a i]
 if i==0 then return dn o i j
 if j==1 then return fb o i j
 let mut g:=gallopOf (<- get)
 for _ in [0:tot] do
  let mut ac:=0
  let mut bc:=0
  for _ in [0:tot] do
   let some r <- lt' (<- elem' b (j-1)) (<- elem' a (i-1)) |return dn o i j
   if r then
    i:=i-1;o:=o.push (<- elem' a i);ac:=ac+1;bc:=0
    if i==0 then return dn o i j
    if ac>=g then break
   else
    j:=j-1;o:=o.push (<- elem' b j);bc:=bc+1;ac:=0
    if j==1 then return fb o i j
    if bc>=g then break
  liftM (rule "list.sort.gallop")
  g:=g+1
  for _ in [0:tot] do
   if g > 1 then g:=g-1
   setG g
   let some at' <- gal false (<- elem' b (j-1)) a 0 i (i-1) |return dn o i j
   let k:=i-at'
   ac:=k
   if k > 0 then
    o:=o++(a.extract at' i).reverse;i:=at'
    if i==0 then return dn o i j
   j:=j-1;o:=o.push (<- elem' b j)
   if j==1 then return fb o i j
   let some at' <- gal true (<- elem' a (i-1)) b 0 j (j-1) |return dn o i j
   let k:=j-at'
   bc:=k
   if k > 0 then
    o:=o++(b.extract at' j).reverse;j:=at'
    if j==1 then return fb o i j
    if j==0 then return dn o i j
   i:=i-1;o:=o.push (<- elem' a i)
   if i==0 then return dn o i j
   if ac<7 && bc<7 then break
  g:=g+1
  setG g
 unsupported "internal:list.sort.merge-bound"):=rfl
structure Mh (Z X Y T:List Keyed):Prop where
 srt:Asc T
 le:∀y∈X++Y,∀x∈T,nk y<=nk x
 prm:(X++Y++T).Perm Z
 sx:Asc X
 sy:Asc Y
section
variable {Z T P X Y:List Keyed}
theorem Mh.takeX (h:Mh Z (X++P) Y T)(hl:∀y∈Y,∀p∈P,nk y<=nk p):Mh Z X Y (P++T):=by
 refine⟨h.sx.right.app h.srt λx hx y hy=>h.le x (by simp[hx]) y hy,λy hy x hx=>?_,?_,h.sx.left,h.sy⟩
 .rcases mem_append.mp hx with hx |hx
  .rcases mem_append.mp hy with hy |hy
   .exact h.sx.mid y hy x hx
   .exact hl y hy x hx
  .refine h.le y ?_ x hx
   rcases mem_append.mp hy with hy |hy<;>simp[hy]
 .refine List.Perm.trans ?_ h.prm
  rw[<- append_assoc]
  refine List.Perm.append_right _ ?_
  rw[append_assoc,append_assoc]
  exact List.Perm.append_left _ List.perm_append_comm
theorem Mh.takeY (h:Mh Z X (Y++P) T)(hl:∀y∈X,∀p∈P,nk y<=nk p):Mh Z X Y (P++T):=by
 refine⟨h.sy.right.app h.srt λx hx y hy=>h.le x (by simp[hx]) y hy,λy hy x hx=>?_,?_,h.sx,h.sy.left⟩
 .rcases mem_append.mp hx with hx |hx
  .rcases mem_append.mp hy with hy |hy
   .exact hl y hy x hx
   .exact h.sy.mid y hy x hx
  .refine h.le y ?_ x hx
   rcases mem_append.mp hy with hy |hy<;>simp[hy]
 .have:=h.prm
  simpa[append_assoc] using this
theorem Mh.endX (h:Mh Z X [] T):Asc (X++T)/\(X++T).Perm Z:=⟨h.sx.app h.srt λx hx y hy=>h.le x (by simp[hx]) y hy,by simpa using h.prm⟩
theorem Mh.endY (h:Mh Z [] Y T):Asc (Y++T)/\(Y++T).Perm Z:=⟨h.sy.app h.srt λx hx y hy=>h.le x (by simp[hx]) y hy,by simpa using h.prm⟩
theorem Mh.endYX (h:Mh Z X Y T)(hl:∀y∈Y,∀x∈X,nk y<=nk x):Asc (Y++X++T)/\(Y++X++T).Perm Z:=by
 have h1:Mh Z ([]++X) Y T:=by rw[nil_append];exact h
 rw[append_assoc]
 exact (h1.takeX hl).endY
end
section
variable {a:Array Keyed}{i k:Nat}
theorem take1 (hi:i<a.size):a.toList.take (i+1)=a.toList.take i++[a[i]]:=by
 rw[List.take_succ,getElem?_eq_getElem (by simpa using hi)];simp
theorem takeN (hk:k<=i):a.toList.take i=a.toList.take k++(a.extract k i).toList:=by
 rw[toList_extract,extract_eq_take_drop]
 have:=take_append_drop k (a.toList.take i)
 rw[List.take_take,Nat.min_eq_left hk,List.drop_take]at this
 exact this.symm
theorem extrB:(a.extract 0 i).toList=a.toList.take i:=by
 rw[toList_extract,extract_eq_take_drop];simp
theorem mem_extr2 {p:Keyed}(hi:i<=a.size)(h:p∈(a.extract k i).toList):∃t,k<=t/\t<i/\nk p=K a t:=by
 obtain⟨t,ht,e⟩:=mem_iff_getElem.mp h
 have ht':k+t<i:=by simp at ht;omega
 refine⟨k+t,by omega,ht',?_⟩
 rw[K_eq (show k+t<a.size by omega),<- e]
 simp
theorem asc_last (h:Asc (a.toList.take (i+1)))(hi:i<a.size):∀y∈a.toList.take (i+1),nk y<=nk a[i]:=λy hy=>by
 rw[take1 hi]at h hy
 rcases mem_append.mp hy with z |z
 .exact h.mid y z _ (by simp)
 .cases mem_singleton.mp z;exact Int.le_refl _
end
structure MK (a b:Array Keyed) (o:Array Keyed) (i j:Nat):Prop where
 mg:Mh (a.toList++b.toList) (a.toList.take i) (b.toList.take j) o.toList.reverse
 ia:i<=a.size
 jb:j<=b.size
 hi:1<=i
 hj:2<=j
section
variable {a b o:Array Keyed}{i j k:Nat}
theorem dh_ok (hi:i=0)(h:Mh (a.toList++b.toList) (a.toList.take i) (b.toList.take j) o.toList.reverse):MR a b (a.extract 0 i++b.extract 0 j++o.reverse):=by
 subst hi
 unfold MR
 rw[toList_append,toList_append,extrB,extrB,toList_reverse,take_zero,nil_append]
 rw[take_zero]at h
 exact h.endY
theorem dh_ok2 (hj:j=0)(h:Mh (a.toList++b.toList) (a.toList.take i) (b.toList.take j) o.toList.reverse):MR a b (a.extract 0 i++b.extract 0 j++o.reverse):=by
 subst hj
 unfold MR
 rw[toList_append,toList_append,extrB,extrB,toList_reverse,take_zero,append_nil]
 rw[take_zero]at h
 exact h.endX
theorem fb_ok (hj:j=1)(h0:∀x∈a.toList,∀y∈b.toList.take 1,nk y<=nk x)(h:Mh (a.toList++b.toList) (a.toList.take i) (b.toList.take j) o.toList.reverse):MR a b (b.extract 0 j++a.extract 0 i++o.reverse):=by
 subst hj
 unfold MR
 rw[toList_append,toList_append,extrB,extrB,toList_reverse]
 exact h.endYX λy hy x hx=>h0 x (mem_of_mem_take hx) y hy
theorem mk_a (hi:i<a.size)(hj:j<b.size)(h:Mh (a.toList++b.toList) (a.toList.take (i+1)) (b.toList.take (j+1)) o.toList.reverse)(hl:nk b[j]<=nk a[i]):Mh (a.toList++b.toList) (a.toList.take i) (b.toList.take (j+1)) (o.push a[i]).toList.reverse:=by
 have hb:=asc_last h.sy hj
 rw[take1 hi]at h
 rw[toList_push,reverse_append]
 refine h.takeX λy hy p hp=>?_
 cases mem_singleton.mp hp
 exact Int.le_trans (hb y hy) hl
theorem mk_b (hi:i<a.size)(hj:j<b.size)(h:Mh (a.toList++b.toList) (a.toList.take (i+1)) (b.toList.take (j+1)) o.toList.reverse)(hl:nk a[i]<=nk b[j]):Mh (a.toList++b.toList) (a.toList.take (i+1)) (b.toList.take j) (o.push b[j]).toList.reverse:=by
 have hb:=asc_last h.sx hi
 rw[take1 hj]at h
 rw[toList_push,reverse_append]
 refine h.takeY λy hy p hp=>?_
 cases mem_singleton.mp hp
 exact Int.le_trans (hb y hy) hl
theorem mk_ga (hk:k<=i)(hi:i<=a.size)(hj:j<b.size)(h:Mh (a.toList++b.toList) (a.toList.take i) (b.toList.take (j+1)) o.toList.reverse)(hl:∀t,k<=t->t<i->nk b[j]<=K a t):Mh (a.toList++b.toList) (a.toList.take k) (b.toList.take (j+1)) (o++(a.extract k i).reverse).toList.reverse:=by
 have hb:=asc_last h.sy hj
 rw[takeN hk]at h
 rw[toList_append,reverse_append,toList_reverse,List.reverse_reverse]
 refine h.takeX λy hy p hp=>?_
 obtain⟨t,t1,t2,e⟩:=mem_extr2 hi hp
 rw[e]
 exact Int.le_trans (hb y hy) (hl t t1 t2)
theorem mk_gb (hk:k<=j)(hj:j<=b.size)(hi:i<a.size)(h:Mh (a.toList++b.toList) (a.toList.take (i+1)) (b.toList.take j) o.toList.reverse)(hl:∀t,k<=t->t<j->nk a[i]<=K b t):Mh (a.toList++b.toList) (a.toList.take (i+1)) (b.toList.take k) (o++(b.extract k j).reverse).toList.reverse:=by
 have hb:=asc_last h.sx hi
 rw[takeN hk]at h
 rw[toList_append,reverse_append,toList_reverse,List.reverse_reverse]
 refine h.takeY λy hy p hp=>?_
 obtain⟨t,t1,t2,e⟩:=mem_extr2 hj hp
 rw[e]
 exact Int.le_trans (hb y hy) (hl t t1 t2)
end
section
variable {prog:Program}{w:World}{A:Around}{E:Value->Shared->Prop}{s:Shared}{st:SortSt}
theorem wpS_mHi {a b:Array Keyed}{Q:Array Keyed->SortSt->Prop}(hk:kindOf st=oneType')(ha:IntKeys a)(hb:IntKeys b)(sa:Asc a.toList)(sb:Asc b.toList)(na:0<a.size)(nb:0<b.size)
  (h0:∀x∈a.toList,∀y∈b.toList.take 1,nk y<=nk x) (hlast:nk b[b.size-1]<=nk a[a.size-1]) (q:∀r st',SG st st'->MR a b r->Q r st'):wpS (model prog w) A E s (mHi a b) Q st:=by
 rw[mHi_eq]
 refine wpS_bind (wpS_lift (wpAny_rule ⟨rfl,?_⟩))
 obtain⟨ia,hia⟩:∃ia,a.size=ia+1:=⟨a.size-1,by omega⟩
 obtain⟨jb,hjb⟩:∃jb,b.size=jb+1:=⟨b.size-1,by omega⟩
 have m0:Mh (a.toList++b.toList) (a.toList.take (ia+1)) (b.toList.take (jb+1)) (#[]:Array Keyed).toList.reverse:=by
  rw[<- hia,<- hjb,take_of_length_le (by simp),take_of_length_le (by simp)]
  exact⟨List.Pairwise.nil,λ_ _ x hx=>by simp at hx,by simp,sa,sb⟩
 refine wpS_bind (wpS_el (by omega) ?_)
 have m1:=mk_a (by omega) (by omega) m0 (by have:=hlast;simp only[hia,hjb,add_sub_cancel]at this;exact this)
 have e1:(#[]:Array Keyed).push a[ia]=#[a[ia]]:=rfl
 rw[e1]at m1
 simp only[hia,hjb,add_sub_cancel]
 by_cases c1:ia=0
 .rw [if_pos (by simpa using c1)]
  exact wpS_pure (q _ _ (SG.refl _) (dh_ok c1 m1))
 rw[if_neg (by simpa using c1)]
 by_cases c2:jb+1=1
 .rw [if_pos (by simpa using c2)]
  exact wpS_pure (q _ _ (SG.refl _) (fb_ok c2 h0 m1))
 rw[if_neg (by simpa using c2)]
 refine wpS_bind (wpS_get ?_)
 have lk:∀{st'},SG st st'->kindOf st'=oneType':=λz=>z.kind.trans hk
 have kA:∀(i) (hi:i<a.size),∃n t,(a[i]).1 = .int n t:=λi hi=>ha _ (by simp)
 have kB:∀(i) (hi:i<b.size),∃n t,(b[i]).1 = .int n t:=λi hi=>hb _ (by simp)
 refine wpS_bind (wpS_mono (wpS_forRange (I:=λx c st'=>SG st st'/\∃o i j g,c=(none,i,j,o,g)/\MK a b o i j/\i+j+x+1<=a.size+b.size) (Q:=λc st'=>SG st st'/\∃r v,c=(some r,v)/\MR a b r) ?p1 ?p2 ⟨SG.refl _,_,ia,jb+1,_,rfl,⟨m1,by omega,by omega,by omega,by omega⟩,by omega⟩) ?p3)
 case p3=>
  rintro c st' ⟨hg,r,v,rfl,hr⟩
  exact wpS_pure (q r st' hg hr)
 case p2=>
  rintro c st' ⟨hg,o,i,j,g,rfl,hJ,hx⟩
  exfalso
  omega
 case p1 =>
  rintro x c st' _ hx ⟨hg,o,i,j,g,rfl,hJ,hx1⟩
  dsimp only
  refine wpS_bind (wpS_mono (wpS_forRange (I:=λx c st'=>SG st st'/\∃o' i' j' ac bc,c=(none,i',j',o',ac,bc)/\MK a b o' i' j'/\i'+j'+x<=i+j) (Q:=λc st'=>SG st st'/\((∃r v,c=(some r,v)/\MR a b r)∨∃o' i' j' ac bc,c=(none,i',j',o',ac,bc)/\MK a b o' i' j'/\i'+j'+1<=i+j)) ?a1 ?b1 ⟨hg,o,i,j,0,0,rfl,hJ,Nat.le_refl _⟩) ?d1)
  case b1=>
   rintro c st2 ⟨hg,o,i,j,ac,bc,rfl,hJ,hx⟩
   exact⟨hg,.inr ⟨o,i,j,ac,bc,rfl,hJ,by omega⟩⟩
  case a1=>
   rintro x c st2 _ hx ⟨hg,o,i,j,ac,bc,rfl,hJ,hx2⟩
   dsimp only
   obtain⟨mg,q1,q2,q3,q4⟩:=hJ
   obtain⟨i,rfl⟩:∃i',i=i'+1:=⟨i-1,by omega⟩
   obtain⟨j,rfl⟩:∃j',j=j'+1:=⟨j-1,by omega⟩
   simp only[add_sub_cancel]
   refine wpS_bind (wpS_el (by omega) (wpS_bind (wpS_el (by omega) ?_)))
   refine wpS_bind (wpS_ltV (lk hg) (kB _ (by omega)) (kA _ (by omega)) ?_)
   dsimp only
   by_cases hl:nk b[j]<nk a[i]
   .rw [decide_eq_true hl,if_pos rfl]
    refine wpS_bind (wpS_el (by omega) ?_)
    have m3:=mk_a (by omega) (by omega) mg (Int.le_of_lt hl)
    by_cases c5:i=0
    .rw [if_pos (by simpa using c5)]
     exact wpS_pure ⟨hg,.inl ⟨_,_,rfl,dh_ok c5 m3⟩⟩
    rw[if_neg (by simpa using c5)]
    split
    .exact wpS_pure ⟨hg,.inr ⟨_,_,_,_,_,rfl,⟨m3,by omega,by omega,by omega,by omega⟩,by omega⟩⟩
    .exact wpS_pure ⟨hg,_,_,_,_,_,rfl,⟨m3,by omega,by omega,by omega,by omega⟩,by omega⟩
   .rw [decide_eq_false hl,if_neg (by decide)]
    refine wpS_bind (wpS_el (by omega) ?_)
    have m3:=mk_b (by omega) (by omega) mg (not_lt.mp hl)
    by_cases c5:j=1
    .rw [if_pos (by simpa using c5)]
     exact wpS_pure ⟨hg,.inl ⟨_,_,rfl,fb_ok c5 h0 m3⟩⟩
    rw[if_neg (by simpa using c5)]
    split
    .exact wpS_pure ⟨hg,.inr ⟨_,_,_,_,_,rfl,⟨m3,by omega,by omega,by omega,by omega⟩,by omega⟩⟩
    .exact wpS_pure ⟨hg,_,_,_,_,_,rfl,⟨m3,by omega,by omega,by omega,by omega⟩,by omega⟩
  case d1 =>
   rintro c st2 ⟨hg,⟨r,v,rfl,hr⟩ | ⟨o,i,j,ac,bc,rfl,hJ,hx⟩⟩
   .exact wpS_pure ⟨hg,r,_,rfl,hr⟩
   dsimp only
   refine wpS_bind (wpS_lift (wpAny_rule ⟨rfl,?_⟩))
   refine wpS_bind (wpS_mono (wpS_forRange (I:=λ_ c st'=>SG st st'/\∃o' i' j' g ac bc,c=(none,i',j',o',g,ac,bc)/\MK a b o' i' j'/\i'+j'<=i+j) (Q:=λc st'=>SG st st'/\((∃r v,c=(some r,v)/\MR a b r)∨∃o' i' j' g ac bc,c=(none,i',j',o',g,ac,bc)/\MK a b o' i' j'/\i'+j'<=i+j)) ?a2 ?b2 ⟨hg,o,i,j,_,ac,bc,rfl,hJ,Nat.le_refl _⟩) ?d2)
   case b2=>
    rintro c st2 ⟨hg,o,i,j,g,ac,bc,rfl,hJ,hx⟩
    exact⟨hg,.inr ⟨o,i,j,g,ac,bc,rfl,hJ,hx⟩⟩
   case d2=>
    rintro c st2 ⟨hg,⟨r,v,rfl,hr⟩ | ⟨o,i,j,g,ac,bc,rfl,hJ,hx⟩⟩
    .exact wpS_pure ⟨hg,r,_,rfl,hr⟩
    .exact wpS_bind (wpS_setG hg λst3 hg3=>wpS_pure ⟨hg3,o,i,j,_,rfl,hJ,by omega⟩)
   case a2 =>
    rintro x c st2 _ _ ⟨hg,o,i,j,g,ac,bc,rfl,hJ,hx⟩
    obtain⟨mg,q1,q2,q3,q4⟩:=hJ
    obtain⟨j,rfl⟩:∃j',j=j'+1:=⟨j-1,by omega⟩
    dsimp only
    simp (maxSteps:=1000000) only[add_sub_cancel]
    by_cases hgt:g > 1<;>(first |rw[if_pos hgt] |rw[if_neg hgt])
    all_goals
     refine wpS_bind (wpS_setG hg λst3 hg3=>?_)
     refine wpS_bind (wpS_el (by omega) ?_)
     refine wpS_bind (wpS_gal (lk hg3) (kB _ (by omega)) ha (by omega) (by omega) (asc_fr sa _ _ (by omega)) λk e1 e2 e3=>?_)
     dsimp only
     by_cases kp:i-k > 0
     .rw [if_pos kp]
      have m2:=mk_ga (k:=k) (by omega) (by omega) (by omega) mg λt t1 t2=>by
       have:=e3 t t1 t2
       have:nk b[j]<K a t:=by simpa[Byd] using this
       exact Int.le_of_lt this
      by_cases c3:k=0
      .rw [if_pos (by simpa using c3)]
       exact wpS_pure ⟨hg3,.inl ⟨_,_,rfl,dh_ok c3 m2⟩⟩
      rw[if_neg (by simpa using c3)]
      obtain⟨k,rfl⟩:∃k',k=k'+1:=⟨k-1,by omega⟩
      have hl:nk a[k]<=nk b[j]:=by
       have:=e2 k (by omega)
       simpa[Byd,K_eq (show k<a.size by omega)] using this
      refine wpS_bind (wpS_el (by omega) ?_)
      have m3:=mk_b (by omega) (by omega) m2 hl
      by_cases c5:j=1
      .rw [if_pos (by simpa using c5)]
       exact wpS_pure ⟨hg3,.inl ⟨_,_,rfl,fb_ok c5 h0 m3⟩⟩
      rw[if_neg (by simpa using c5)]
      refine wpS_bind (wpS_el (by omega) ?_)
      refine wpS_bind (wpS_gal (lk hg3) (kA _ (by omega)) hb (by omega) (by omega) (asc_fr sb _ _ (by omega)) λk' f1 f2 f3=>?_)
      simp (maxSteps:=1000000) only[add_sub_cancel]
      by_cases kq:j-k' > 0
      .rw [if_pos kq]
       have m4:=mk_gb (k:=k') (by omega) (by omega) (by omega) m3 λt t1 t2=>by
        have:=f3 t t1 t2
        simpa[Byd] using this
       by_cases c6:k'=1
       .rw [if_pos (by simpa using c6)]
        exact wpS_pure ⟨hg3,.inl ⟨_,_,rfl,fb_ok c6 h0 m4⟩⟩
       rw[if_neg (by simpa using c6)]
       by_cases c8:k'=0
       .rw [if_pos (by simpa using c8)]
        exact wpS_pure ⟨hg3,.inl ⟨_,_,rfl,dh_ok2 c8 m4⟩⟩
       rw[if_neg (by simpa using c8)]
       obtain⟨k',rfl⟩:∃z,k'=z+1:=⟨k'-1,by omega⟩
       have hl2:nk b[k']<=nk a[k]:=by
        have:=f2 k' (by omega)
        have:nk b[k']<nk a[k]:=by simpa[Byd,K_eq (show k'<b.size by omega)] using this
        exact Int.le_of_lt this
       refine wpS_bind (wpS_el (by omega) ?_)
       have m5:=mk_a (by omega) (by omega) m4 hl2
       by_cases c7:k=0
       .rw [if_pos (by simpa using c7)]
        exact wpS_pure ⟨hg3,.inl ⟨_,_,rfl,dh_ok c7 m5⟩⟩
       rw[if_neg (by simpa using c7)]
       split
       .exact wpS_pure ⟨hg3,.inr ⟨_,_,_,_,_,_,rfl,⟨m5,by omega,by omega,by omega,by omega⟩,by omega⟩⟩
       .exact wpS_pure ⟨hg3,_,_,_,_,_,_,rfl,⟨m5,by omega,by omega,by omega,by omega⟩,by omega⟩
      .rw [if_neg kq]
       obtain rfl:j=k':=by omega
       obtain⟨j,rfl⟩:∃z,j=z+1:=⟨j-1,by omega⟩
       have hl2:nk b[j]<=nk a[k]:=by
        have:=f2 j (by omega)
        have:nk b[j]<nk a[k]:=by simpa[Byd,K_eq (show j<b.size by omega)] using this
        exact Int.le_of_lt this
       refine wpS_bind (wpS_el (by omega) ?_)
       have m5:=mk_a (by omega) (by omega) m3 hl2
       by_cases c7:k=0
       .rw [if_pos (by simpa using c7)]
        exact wpS_pure ⟨hg3,.inl ⟨_,_,rfl,dh_ok c7 m5⟩⟩
       rw[if_neg (by simpa using c7)]
       split
       .exact wpS_pure ⟨hg3,.inr ⟨_,_,_,_,_,_,rfl,⟨m5,by omega,by omega,by omega,by omega⟩,by omega⟩⟩
       .exact wpS_pure ⟨hg3,_,_,_,_,_,_,rfl,⟨m5,by omega,by omega,by omega,by omega⟩,by omega⟩
     .rw [if_neg kp]
      obtain rfl:i=k:=by omega
      obtain⟨i,rfl⟩:∃k',i=k'+1:=⟨i-1,by omega⟩
      have hl:nk a[i]<=nk b[j]:=by
       have:=e2 i (by omega)
       simpa[Byd,K_eq (show i<a.size by omega)] using this
      refine wpS_bind (wpS_el (by omega) ?_)
      have m3:=mk_b (by omega) (by omega) mg hl
      by_cases c5:j=1
      .rw [if_pos (by simpa using c5)]
       exact wpS_pure ⟨hg3,.inl ⟨_,_,rfl,fb_ok c5 h0 m3⟩⟩
      rw[if_neg (by simpa using c5)]
      refine wpS_bind (wpS_el (by omega) ?_)
      refine wpS_bind (wpS_gal (lk hg3) (kA _ (by omega)) hb (by omega) (by omega) (asc_fr sb _ _ (by omega)) λk' f1 f2 f3=>?_)
      simp (maxSteps:=1000000) only[add_sub_cancel]
      by_cases kq:j-k' > 0
      .rw [if_pos kq]
       have m4:=mk_gb (k:=k') (by omega) (by omega) (by omega) m3 λt t1 t2=>by
        have:=f3 t t1 t2
        simpa[Byd] using this
       by_cases c6:k'=1
       .rw [if_pos (by simpa using c6)]
        exact wpS_pure ⟨hg3,.inl ⟨_,_,rfl,fb_ok c6 h0 m4⟩⟩
       rw[if_neg (by simpa using c6)]
       by_cases c8:k'=0
       .rw [if_pos (by simpa using c8)]
        exact wpS_pure ⟨hg3,.inl ⟨_,_,rfl,dh_ok2 c8 m4⟩⟩
       rw[if_neg (by simpa using c8)]
       obtain⟨k',rfl⟩:∃z,k'=z+1:=⟨k'-1,by omega⟩
       have hl2:nk b[k']<=nk a[i]:=by
        have:=f2 k' (by omega)
        have:nk b[k']<nk a[i]:=by simpa[Byd,K_eq (show k'<b.size by omega)] using this
        exact Int.le_of_lt this
       refine wpS_bind (wpS_el (by omega) ?_)
       have m5:=mk_a (by omega) (by omega) m4 hl2
       by_cases c7:i=0
       .rw [if_pos (by simpa using c7)]
        exact wpS_pure ⟨hg3,.inl ⟨_,_,rfl,dh_ok c7 m5⟩⟩
       rw[if_neg (by simpa using c7)]
       split
       .exact wpS_pure ⟨hg3,.inr ⟨_,_,_,_,_,_,rfl,⟨m5,by omega,by omega,by omega,by omega⟩,by omega⟩⟩
       .exact wpS_pure ⟨hg3,_,_,_,_,_,_,rfl,⟨m5,by omega,by omega,by omega,by omega⟩,by omega⟩
      .rw [if_neg kq]
       obtain rfl:j=k':=by omega
       obtain⟨j,rfl⟩:∃z,j=z+1:=⟨j-1,by omega⟩
       have hl2:nk b[j]<=nk a[i]:=by
        have:=f2 j (by omega)
        have:nk b[j]<nk a[i]:=by simpa[Byd,K_eq (show j<b.size by omega)] using this
        exact Int.le_of_lt this
       refine wpS_bind (wpS_el (by omega) ?_)
       have m5:=mk_a (by omega) (by omega) m3 hl2
       by_cases c7:i=0
       .rw [if_pos (by simpa using c7)]
        exact wpS_pure ⟨hg3,.inl ⟨_,_,rfl,dh_ok c7 m5⟩⟩
       rw[if_neg (by simpa using c7)]
       split
       .exact wpS_pure ⟨hg3,.inr ⟨_,_,_,_,_,_,rfl,⟨m5,by omega,by omega,by omega,by omega⟩,by omega⟩⟩
       .exact wpS_pure ⟨hg3,_,_,_,_,_,_,rfl,⟨m5,by omega,by omega,by omega,by omega⟩,by omega⟩
end
theorem mAt_eq (i:Nat):mergeAt' i=(do
 let z <- get
 let (some (u,n,pw),some (v,m,_)):=((pendingOf z)[i]?,(pendingOf z)[i+1]?) |unsupported "internal:list.sort.pending"
 set (setPending z (((pendingOf z).setIfInBounds i (u,n+m,pw)).eraseIdxIfInBounds (i+1)))
 let some k <- gal false (<- elem' (arrOf z) v) (arrOf z) u n 0 |return false
 let (u,n):=(u+k,n-k)
 if n==0 then return true
 let some m <- gal true (<- elem' (arrOf z) (u+n-1)) (arrOf z) v m (m-1) |return false
 if m==0 then return true
 let x:=(arrOf z).extract u v
 let y:=(arrOf z).extract v (v+m)
 let g <- if n<=m then mLo x y else mHi x y
 modify λt=>setArr t (g.toList.zipIdx.foldl (λa (p,j)=>a.setIfInBounds (u+j) p) (arrOf t))
 return (failedOf (<- get)).isNone):=rfl
theorem fold_set (u:Nat):∀(m:List Keyed) (o:Nat) (arr:Array Keyed),u+o+m.length<=arr.size->
  ((m.zipIdx o).foldl (λa (p,j)=>a.setIfInBounds (u+j) p) arr).toList=arr.toList.take (u+o)++m++arr.toList.drop (u+o+m.length)
 | [],o,arr,h=>by simp
 |p::m,o,arr,h=>by
  rw[length_cons]at h
  rw[List.zipIdx_cons,foldl_cons,fold_set u m (o+1) _ (by rw[Array.size_setIfInBounds];omega),Array.toList_setIfInBounds,length_cons]
  rw[show u+(o+1)=u+o+1 by omega,show u+o+1+m.length=u+o+(m.length+1) by omega]
  rw[List.drop_set_of_lt (by omega),List.take_succ,List.take_set_of_le (by omega),getElem?_set_self (by simp;omega)]
  simp
theorem sorted_asc {a:Array Keyed}{lo hi:Nat}(h:SFr a lo hi)(hh:hi<=a.size):Asc (a.extract lo hi).toList:=by
 refine List.pairwise_iff_getElem.mpr λi j hi hj hij=>?_
 simp only[toList_extract,extract_eq_take_drop,length_take,length_drop,length_toList]at hi hj
 have:=h (lo+i) (lo+j) (by omega) (by omega) (by omega)
 rw[K_eq (by omega),K_eq (by omega)]at this
 simpa using this
theorem asc_sorted {a:Array Keyed}(h:Asc a.toList):SortedTo a a.size:=λi j a1 a2=>asc_fr h 0 a.size (Nat.le_refl _) i j (by omega) a1 a2
theorem split4 {a:Array Keyed}{k n m:Nat}(h1:k<=n)(h2:n+m<=a.size):a.toList=a.toList.take k++((a.extract k n).toList++(a.extract n (n+m)).toList)++a.toList.drop (n+m):=by
 have e1:=takeN (a:=a) (i:=n) (k:=k) h1
 have e2:=takeN (a:=a) (i:=n+m) (k:=n) (by omega)
 rw[<- append_assoc,<- e1,<- e2,take_append_drop]
theorem ints_extr {a:Array Keyed}(h:IntKeys a)(i j:Nat):IntKeys (a.extract i j):=λp hp=>h p (by
 rw[toList_extract,extract_eq_take_drop]at hp
 exact List.mem_of_mem_drop (mem_of_mem_take hp))
theorem perm_ints {a b:Array Keyed}(p:a.Perm b)(h:IntKeys b):IntKeys a:=λx hx=>h x ((Array.perm_iff_toList_perm.mp p).mem_iff.mp hx)
structure Rn2 (a₀:Array Keyed) (n m pw p2:Nat) (st:SortSt):Prop where
 perm:(arrOf st).Perm a₀
 kind:kindOf st=oneType'
 fail:failedOf st=none
 pend:pendingOf st=#[(0,n,pw),(n,m,p2)]
 s1:SFr (arrOf st) 0 n
 s2:SFr (arrOf st) n (n+m)
structure Rn1 (a₀:Array Keyed) (n pw:Nat) (st:SortSt):Prop where
 perm:(arrOf st).Perm a₀
 kind:kindOf st=oneType'
 fail:failedOf st=none
 pend:pendingOf st=#[(0,n,pw)]
 s1:SFr (arrOf st) 0 n
section
variable {prog:Program}{w:World}{A:Around}{E:Value->Shared->Prop}{s:Shared}{st:SortSt}{a₀:Array Keyed}
theorem wpS_set {O:Type}{δ:Model}{z t:O}{Q:PUnit->O->Prop}(h:Q ⟨⟩ z):wpS δ A E s (set z:StateT O Sem PUnit) Q t:=by
 unfold wpS;rw[StateT.run_set];exact wpAny_pure ⟨rfl,h⟩
theorem wpS_mAt {n m pw p2:Nat}{Q:Bool->SortSt->Prop}(h0:IntKeys a₀)(R:Rn2 a₀ n m pw p2 st)(hn:0<n)(hm:0<m)(hs:n+m=a₀.size)(q:∀st',Rn1 a₀ (n+m) pw st'->Q true st'):wpS (model prog w) A E s (mergeAt' 0) Q st:=by
 rw[mAt_eq]
 refine wpS_bind (wpS_get ?_)
 rw[R.pend]
 dsimp only
 have hz:(arrOf st).size=n+m:=by rw[R.perm.size_eq,hs]
 have hA:IntKeys (arrOf st):=perm_ints R.perm h0
 show wpS _ _ _ _ (set _ >>= _) _ _
 refine wpS_bind (wpS_set ?_)
 generalize hst1:setPending st _=st1
 have g1:arrOf st1=arrOf st:=by rw[<- hst1]
 have g2:kindOf st1=oneType':=by rw[<- hst1];exact R.kind
 have g3:failedOf st1=none:=by rw[<- hst1];exact R.fail
 have g4:pendingOf st1=#[(0,n+m,pw)]:=by rw[<- hst1];simp[Array.eraseIdxIfInBounds,Array.setIfInBounds]
 clear hst1
 refine wpS_bind (wpS_el (by omega) ?_)
 have kk:∀(i) (hi:i<(arrOf st).size),∃n t,((arrOf st)[i]).1 = .int n t:=λi hi=>hA _ (by simp)
 refine wpS_bind (wpS_gal g2 (kk _ (by omega)) hA (by omega) hn (by rw[Nat.zero_add];exact R.s1) λk e1 e2 e3=>?_)
 have key:nk (arrOf st)[n]=K (arrOf st) n:=(K_eq (by omega)).symm
 have e2':∀i,i<k->K (arrOf st) i<=K (arrOf st) n:=λi hi=>by have:=e2 i hi;rw[<- key];simpa[Byd] using this
 have e3':∀i,k<=i->i<n->K (arrOf st) n<K (arrOf st) i:=λi a1 a2=>by have:=e3 i a1 a2;rw[<- key];simpa[Byd] using this
 have same:SFr (arrOf st) 0 (n+m)->Q true st1:=λz=>q st1 ⟨by rw[g1];exact R.perm,g2,g3,g4,by rw[g1];exact z⟩
 dsimp only
 by_cases c1:n-k=0
 .rw [if_pos (by simpa using c1)]
  refine wpS_pure (same λi j a1 a2 a3=>?_)
  by_cases hj:j<n
  .exact R.s1 i j a1 a2 hj
  by_cases hi:i<n
  .exact Int.le_trans (e2' i (by omega)) (R.s2 n j (Nat.le_refl _) (by omega) a3)
  .exact R.s2 i j (by omega) a2 a3
 rw[if_neg (by simpa using c1)]
 simp only[Nat.zero_add,show k+(n-k)-1=n-1 by omega]
 refine wpS_bind (wpS_el (by omega) ?_)
 refine wpS_bind (wpS_gal g2 (kk _ (by omega)) hA (by omega) (by omega) R.s2 λl f1 f2 f3=>?_)
 have key2:nk (arrOf st)[n-1]=K (arrOf st) (n-1):=(K_eq (by omega)).symm
 have f2':∀i,i<l->K (arrOf st) (n+i)<K (arrOf st) (n-1):=λi hi=>by have:=f2 i hi;rw[<- key2];simpa[Byd] using this
 have f3':∀i,l<=i->i<m->K (arrOf st) (n-1)<=K (arrOf st) (n+i):=λi a1 a2=>by have:=f3 i a1 a2;rw[<- key2];simpa[Byd] using this
 dsimp only
 by_cases c2:l=0
 .rw [if_pos (by simpa using c2)]
  refine wpS_pure (same λi j a1 a2 a3=>?_)
  by_cases hj:j<n
  .exact R.s1 i j a1 a2 hj
  by_cases hi:i<n
  .have:=f3' (j-n) (by omega) (by omega)
   rw[show n+(j-n)=j by omega]at this
   exact Int.le_trans (R.s1 i (n-1) (by omega) (by omega) (by omega)) this
  .exact R.s2 i j (by omega) a2 a3
 rw[if_neg (by simpa using c2)]
 have hx:=sorted_asc (a:=arrOf st) (lo:=k) (hi:=n) (λi j a1 a2 a3=>R.s1 i j (by omega) a2 a3) (by omega)
 have hy:=sorted_asc (a:=arrOf st) (lo:=n) (hi:=n+l) (λi j a1 a2 a3=>R.s2 i j a1 a2 (by omega)) (by omega)
 have ix:=ints_extr hA k n
 have iy:=ints_extr hA n (n+l)
 have sx:((arrOf st).extract k n).size=n-k:=by simp;omega
 have sy:((arrOf st).extract n (n+l)).size=l:=by simp;omega
 have mx:∀p∈((arrOf st).extract k n).toList,∃t,k<=t/\t<n/\nk p=K (arrOf st) t:=λp hp=>mem_extr2 (by omega) hp
 have my:∀p∈((arrOf st).extract n (n+l)).toList,∃t,n<=t/\t<n+l/\nk p=K (arrOf st) t:=λp hp=>mem_extr2 (by omega) hp
 have atx:∀(t) (ht:t<((arrOf st).extract k n).size),nk ((arrOf st).extract k n)[t]=K (arrOf st) (k+t):=λt ht=>by rw[K_eq (by omega)];simp
 have aty:∀(t) (ht:t<((arrOf st).extract n (n+l)).size),nk ((arrOf st).extract n (n+l))[t]=K (arrOf st) (n+t):=λt ht=>by rw[K_eq (by omega)];simp
 have fin:∀(r:Array Keyed) (st2:SortSt),SG st1 st2->MR ((arrOf st).extract k n) ((arrOf st).extract n (n+l)) r->Q true (setArr st2 (r.toList.zipIdx.foldl (λa (p,j)=>a.setIfInBounds (k+j) p) (arrOf st2))):=by
  rintro r st2 sg ⟨r1,r2⟩
  have hl:r.toList.length=n-k+l:=by rw[r2.length_eq,length_append,length_toList,length_toList,sx,sy]
  have e0:arrOf st2=arrOf st:=sg.arr.trans g1
  have ef:=fold_set k r.toList 0 (arrOf st2) (by rw[e0];omega)
  rw[add_zero,hl,show k+(n-k+l)=n+l by omega,e0]at ef
  rw[e0]
  generalize r.toList.zipIdx.foldl (λa (p,j)=>a.setIfInBounds (k+j) p) (arrOf st)=res at ef
  have rmem:∀p∈r.toList,∃t,k<=t/\t<n+l/\nk p=K (arrOf st) t:=λp hp=>by
   rcases mem_append.mp (r2.mem_iff.mp hp) with z |z
   .obtain ⟨t,a1,a2,a3⟩:=mx p z;exact⟨t,a1,by omega,a3⟩
   .obtain ⟨t,a1,a2,a3⟩:=my p z;exact⟨t,by omega,a2,a3⟩
  have tmem:∀p∈(arrOf st).toList.take k,∃t,t<k/\nk p=K (arrOf st) t:=λp hp=>by
   rw[<- extrB]at hp
   obtain⟨t,_,a2,a3⟩:=mem_extr2 (by omega) hp;exact⟨t,a2,a3⟩
  have dmem:∀p∈(arrOf st).toList.drop (n+l),∃t,n+l<=t/\t<n+m/\nk p=K (arrOf st) t:=λp hp=>by
   rw[<- extrE (by omega)]at hp
   obtain⟨t,a1,a2,a3⟩:=mem_extr2 (Nat.le_refl _) hp;exact⟨t,a1,by omega,a3⟩
  -- t in [0,k) is below all of [k,n + m); t in [k,n + l) is below all of [n + l,n + m)
  have low:∀t u,t<k->k<=u->u<n+m->K (arrOf st) t<=K (arrOf st) u:=λt u a1 a2 a3=>by
   by_cases hu:u<n
   .exact R.s1 t u (by omega) (by omega) hu
   .exact Int.le_trans (e2' t a1) (R.s2 n u (Nat.le_refl _) (by omega) a3)
  have mid:∀t u,t<n+l->n+l<=u->u<n+m->K (arrOf st) t<=K (arrOf st) u:=λt u a1 a2 a3=>by
   by_cases ht:t<n
   .have:=f3' (u-n) (by omega) (by omega)
    rw[show n+(u-n)=u by omega]at this
    exact Int.le_trans (R.s1 t (n-1) (by omega) (by omega) (by omega)) this
   .exact R.s2 t u (by omega) (by omega) a3
  have asc:Asc res.toList:=by
   rw[ef]
   refine Asc.app (Asc.app ?_ r1 λx hx y hy=>?_) ?_ λx hx y hy=>?_
   .rw [<- extrB];exact sorted_asc (λi j a1 a2 a3=>R.s1 i j a1 a2 (by omega)) (by omega)
   .obtain ⟨t,a1,a2⟩:=tmem x hx
    obtain⟨u,b1,b2,b3⟩:=rmem y hy
    rw[a2,b3];exact low t u a1 b1 (by omega)
   .rw [<- extrE (by omega)];exact sorted_asc (λi j a1 a2 a3=>R.s2 i j (by omega) a2 (by omega)) (Nat.le_refl _)
   .obtain ⟨u,b1,b2,b3⟩:=dmem y hy
    rw[b3]
    rcases mem_append.mp hx with z |z
    .obtain ⟨t,a1,a2⟩:=tmem x z
     rw[a2];exact mid t u (by omega) b1 b2
    .obtain ⟨t,a1,a2,a3⟩:=rmem x z
     rw[a3];exact mid t u a2 b1 b2
  have prm:res.toList.Perm (arrOf st).toList:=by
   rw[ef]
   refine List.Perm.trans ?_ (List.Perm.of_eq (split4 (a:=arrOf st) (k:=k) (n:=n) (m:=l) (by omega) (by omega)).symm)
   exact List.Perm.append_right _ (List.Perm.append_left _ r2)
  have prm':res.Perm a₀:=(Array.perm_iff_toList_perm.mpr prm).trans R.perm
  refine q _ ⟨prm',sg.kind.trans g2,sg.fail.trans g3,sg.pend.trans g4,λi j a1 a2 a3=>?_⟩
  exact asc_sorted asc i j a2 (by rw[prm'.size_eq,<- hs];exact a3)
 have fl:∀(r:Array Keyed) (st2:SortSt),SG st1 st2->failedOf (setArr st2 r)=none:=λr st2 sg=>sg.fail.trans g3
 by_cases c3:n-k<=l
 .rw [if_pos c3]
  refine wpS_bind (wpS_mLo g2 ix iy hx hy (by omega) (by omega) ?_ ?_ λr st2 sg hr=>?_)
  .rw [atx,aty]
   exact Int.le_of_lt (by have:=e3' k (Nat.le_refl _) (by omega);simpa using this)
  .intro y hy x hx
   obtain⟨t,t1,t2,t3⟩:=my y hy
   rw[sx]at hx
   have hx:x∈((arrOf st).extract (n-1) n).toList:=by
    have e:=takeN (a:=arrOf st) (i:=n) (k:=k) (by omega)
    rw[toList_extract,extract_eq_take_drop]at hx ⊢
    rw[List.drop_take,List.drop_drop]at hx
    rwa[show k+(n-k-1)=n-1 by omega,show n-k-(n-k-1)=n-(n-1) by omega]at hx
   obtain⟨u,u1,u2,u3⟩:=mem_extr2 (by omega) hx
   have:=f2' (t-n) (by omega)
   rw[show n+(t-n)=t by omega]at this
   rw[t3,u3,show u=n-1 by omega]
   exact Int.le_of_lt this
  .refine wpS_bind (wpS_modify (wpS_bind (wpS_get ?_)))
   rw[fl _ _ sg]
   exact wpS_pure (fin r st2 sg hr)
 .rw [if_neg c3]
  refine wpS_bind (wpS_mHi g2 ix iy hx hy (by omega) (by omega) ?_ ?_ λr st2 sg hr=>?_)
  .intro x hx y hy
   obtain⟨u,u1,u2,u3⟩:=mx x hx
   have hy:y∈((arrOf st).extract n (n+1)).toList:=by
    rw[toList_extract,extract_eq_take_drop]at hy ⊢
    rw[List.take_take]at hy
    rwa[show min 1 (n+l-n)=n+1-n by omega]at hy
   obtain⟨t,t1,t2,t3⟩:=mem_extr2 (by omega) hy
   rw[t3,u3,show t=n by omega]
   exact Int.le_of_lt (e3' u u1 u2)
  .rw [atx,aty,sx,sy]
   have:=f2' (l-1) (by omega)
   rw[show k+(n-k-1)=n-1 by omega]
   exact Int.le_of_lt this
  .refine wpS_bind (wpS_modify (wpS_bind (wpS_get ?_)))
   rw[fl _ _ sg]
   exact wpS_pure (fin r st2 sg hr)
end
def Ris (xs:Array Nat):Prop:=xs.toList.Pairwise (· < ·)
theorem ris_at {xs:Array Nat}(h:Ris xs){i j:Nat}(hij:i<j)(hj:j<xs.size):xs[i]'(by omega)<xs[j]:=by
 have:=List.pairwise_iff_getElem.mp h i j (by simp;omega) (by simpa using hj) hij
 simpa using this
theorem below_go (xs:Array Nat)(j:Nat)(hr:Ris xs):∀(f lo hi:Nat),hi-lo<=f->lo<=hi->hi<=xs.size->(∀i (h:i<xs.size),i<lo->xs[i]<j)->(∀i (h:i<xs.size),hi<=i->j<=xs[i])->
  SetTable.below.go xs j f lo hi<=xs.size/\(∀i (h:i<xs.size),i<SetTable.below.go xs j f lo hi->xs[i]<j)/\∀i (h:i<xs.size),SetTable.below.go xs j f lo hi<=i->j<=xs[i]
 | 0,lo,hi,h1,h2,h3,h4,h5=>by
  rw[SetTable.below.go]
  obtain rfl:lo=hi:=by omega
  exact⟨h3,h4,h5⟩
 |f + 1,lo,hi,h1,h2,h3,h4,h5=>by
  rw[SetTable.below.go]
  split
  .dsimp only
   have hm:(lo+hi) / 2<xs.size:=by omega
   have e:xs.getD ((lo+hi) / 2) j=xs[(lo+hi) / 2]:=by simp[hm]
   rw[e]
   split
   .rename_i hl
    refine below_go xs j hr f _ hi (by omega) (by omega) h3 (λi h a1=>?_) h5
    by_cases z:i=(lo+hi) / 2
    .subst z;exact hl
    .exact lt_trans (ris_at hr (by omega) hm) hl
   .rename_i hl
    refine below_go xs j hr f lo _ (by omega) (by omega) (by omega) h4 λi h a1=>?_
    by_cases z:i=(lo+hi) / 2
    .subst z;exact Nat.not_lt.mp hl
    .exact Nat.le_trans (Nat.not_lt.mp hl) (Nat.le_of_lt (ris_at hr (by omega) h))
  .obtain rfl:lo=hi:=by omega
   exact⟨h3,h4,h5⟩
theorem below_ok {xs:Array Nat}(hr:Ris xs)(j:Nat):SetTable.below xs j<=xs.size/\(∀i (h:i<xs.size),i<SetTable.below xs j->xs[i]<j)/\∀i (h:i<xs.size),SetTable.below xs j<=i->j<=xs[i]:=
 below_go xs j hr xs.size 0 xs.size (by omega) (by omega) (Nat.le_refl _) (λi _ h=>by omega) λi h1 h2=>by omega
theorem ris_ins {xs:Array Nat}(hr:Ris xs){j:Nat}(hn:xs[SetTable.below xs j]?≠some j):Ris (SetTable.insertAt xs (SetTable.below xs j) j):=by
 obtain⟨h1,h2,h3⟩:=below_ok hr j
 generalize SetTable.below xs j=c at h1 h2 h3 hn
 unfold Ris SetTable.insertAt
 have e:((xs.extract 0 c).push j++xs.extract c xs.size).toList=xs.toList.take c++[j]++xs.toList.drop c:=by
  rw[toList_append,toList_push,toList_extract,toList_extract,extract_eq_take_drop,extract_eq_take_drop]
  simp[take_of_length_le]
 rw[e]
 have ht:∀x∈xs.toList.take c,x<j:=λx hx=>by
  obtain⟨i,hi,rfl⟩:=mem_iff_getElem.mp hx
  simp at hi
  have:=h2 i (by omega) (by omega)
  simpa using this
 have hd:∀x∈xs.toList.drop c,j<x:=λx hx=>by
  obtain⟨i,hi,rfl⟩:=mem_iff_getElem.mp hx
  simp at hi
  have hci:c+i<xs.size:=by omega
  have h4:=h3 (c+i) hci (by omega)
  have h5:j<=xs[c]'(by omega):=h3 c (by omega) (Nat.le_refl _)
  have h6:j≠xs[c]'(by omega):=λz=>hn (by rw[getElem?_pos xs c (by omega),<- z])
  have:j<xs[c+i]:=by
   cases i with
   |zero=>exact Nat.lt_of_le_of_ne h5 h6
   |succ i=>exact Nat.lt_of_le_of_lt h5 (ris_at hr (by omega) hci)
  simpa using this
 refine pairwise_append.mpr ⟨pairwise_append.mpr ⟨List.Pairwise.sublist (List.take_sublist _ _) hr,by simp,λx hx y hy=>?_⟩,List.Pairwise.sublist (List.drop_sublist _ _) hr,λx hx y hy=>?_⟩
 .cases mem_singleton.mp hy;exact ht x hx
 .rcases mem_append.mp hx with z |z
  .exact lt_trans (ht x z) (hd y hy)
  .cases mem_singleton.mp z;exact hd y hy
theorem probe_go (t:SetTable)(hs:Nat->Int)(h:Int):∀(f:Nat) (p:SetTable.Probe) (j:Nat) (d:Option Nat),(∀x,p.dummy=some x->t.slot x = .dummy)->SetTable.probe.go t hs h f p=some (.empty j d)->t.slot j = .empty/\∀x,d=some x->t.slot x = .dummy
 | 0,p,j,d,_,e=>by rw[SetTable.probe.go]at e;cases e
 |f + 1,p,j,d,hp,e=>by
  have adv:∀q:SetTable.Probe,(t.advance q).dummy=q.dummy:=λq=>by unfold SetTable.advance;split<;>rfl
  rw[SetTable.probe.go]at e
  split at e
  .rename_i hs'
   cases e
   exact⟨hs',hp⟩
  .rename_i hs'
   refine probe_go t hs h f _ j d (λx hx=>?_) e
   rw[adv]at hx
   cases hx
   exact hs'
  .split at e
   .cases e
   .exact probe_go t hs h f _ j d (λx hx=>hp x (by rw[adv]at hx;exact hx)) e
theorem slot_ne {t:SetTable}{j:Nat}(h:t.slot j = .empty∨t.slot j = .dummy):t.place[SetTable.below t.place j]?≠some j:=λz=>by
 unfold SetTable.slot at h
 dsimp only at h
 rw[z]at h
 simp at h
theorem free_ne {t:SetTable}{h:Int}{j:Nat}{b:Bool}(e:t.freeSlot h=some (j,b)):t.place[SetTable.below t.place j]?≠some j:=by
 unfold SetTable.freeSlot at e
 split at e
 .rename_i j' d hp
  obtain⟨h1,h2⟩:=probe_go t _ h _ _ j' d (λx hx=>by cases hx) hp
  cases e
  cases d with
  |none=>exact slot_ne (.inl h1)
  |some x=>exact slot_ne (.inr (h2 x rfl))
 .cases e
structure TabOk (L:Bool) (t:SetTable):Prop where
 led:t.led=L
 ris:t.plain=true->Ris t.place
theorem TabOk.standIn {L:Bool}{t:SetTable}(h:TabOk L t)(n:Nat):TabOk L (t.standIn n):=⟨h.led,λz=>by cases z⟩
theorem layNew_ok {L:Bool}{t:SetTable}(h:TabOk L t)(es:Array (Int×Value))(k:Int)(x:Value):TabOk L (layNew t es k x).2.1:=by
 unfold layNew
 split
 .rename_i j b e
  show TabOk L ((t.put j).1.orStandIn _)
  have hp:TabOk L (t.put j).1:=⟨h.led,λz=>ris_ins (h.ris z) (free_ne e)⟩
  unfold SetTable.orStandIn
  split
  .exact hp
  .exact hp.standIn _
 .exact h.standIn _
theorem relayAll_ok {L:Bool}{t:SetTable}(h:TabOk L t)(es:Array (Int×Value))(n:Nat):TabOk L (relayAll t es n).2.1:=by
 unfold relayAll
 split
 .rename_i t' o e
  have hp : TabOk L t':=by
   unfold SetTable.relaid SetTable.laid at e
   cases hl:SetTable.layClean (SetTable.sizeAbove n-1) (es.map (·.1)) with
   |none=>rw[hl]at e;cases e
   |some ow=>
    rw[hl]at e
    cases e
    refine⟨h.led,λ_=>?_⟩
    show ((List.filterMap _ _).map _).toArray.toList.Pairwise _
    rw[List.toList_toArray,List.map_filterMap]
    have key:∀l:List Nat,l.Pairwise (· < ·)->(l.filterMap λj=>Option.map (·.1) ((ow.getD j none).map ((j,·):Nat->Nat×Nat))).Pairwise (· < ·):=λl hl=>by
     refine List.Pairwise.filterMap _ (λa a' haa b hb b' hb'=>?_) hl
     cases hx:ow.getD a none with
     |none=>rw[hx]at hb;cases hb
     |some y=>
      cases hy:ow.getD a' none with
      |none=>rw[hy]at hb';cases hb'
      |some y'=>rw[hx]at hb;rw[hy]at hb';cases hb;cases hb';exact haa
    exact key _ pairwise_lt_range
  dsimp only
  split
  .exact hp
  .exact h.standIn _
 .exact h.standIn _
def SetX (L:Bool)(a:Addr)(ms:List Int)(h:Heap):Prop:=∃es ep t,h.get? a=some {cls:=.type "set",dict:=none,data:=.set es ep t}/\(∀e∈es.toList,∃k u,e=(hashInt k,Value.int k u))/\es.toList.map (λe=>numOf e.2)=ms/\ms.Nodup/\es.size<scanBound/\t.fits es.size=true/\TabOk L t
theorem SetX.stay {L:Bool}{a:Addr}{ms:List Int}{h h':Heap}(x:SetX L a ms h)(k:∀o,h.get? a=some o->h'.get? a=some o):SetX L a ms h':=let⟨es,ep,t,e,r⟩:=x;⟨es,ep,t,k _ e,r⟩
section
variable {prog:Program}{w:World}{A:Around}{E:Value->Shared->Prop}{s:Shared}{L:Bool}{a:Addr}{ms:List Int}
theorem elems_of {es:List (Int×Value)}(h:∀e∈es,∃k u,e=(hashInt k,Value.int k u)):ElemsOf (intKind prog w) es:=λe he=>by
 obtain⟨k,u,rfl⟩:=h e he
 exact⟨⟨k,intKind_is _ _ _ _,rfl⟩,rfl⟩
theorem find_mem {es:List (Int×Value)}{ms:List Int}{k:Int}(h:∀e∈es,∃k u,e=(hashInt k,Value.int k u))(hm:es.map (λe=>numOf e.2)=ms):(es.findIdx? λe=>(intKind prog w).is k e.2)=none↔k∉ms:=by
 have is_iff:∀e∈es,(intKind prog w).is k e.2=true↔numOf e.2=k:=λe he=>by
  obtain⟨k',u,rfl⟩:=h e he
  show (k'==k)=true↔k'=k
  exact beq_iff_eq
 rw[List.findIdx?_eq_none_iff,<- hm,mem_map]
 constructor
 .rintro z ⟨e,he,q⟩
  have:=z e he
  rw[(is_iff e he).mpr q]at this;cases this
 .intro z e he
  cases q:(intKind prog w).is k e.2 with
  |false=>rfl
  |true=>exact absurd ⟨e,he,(is_iff e he).mp q⟩ z
theorem SetX.store {es es':Array (Int×Value)}{ep:Nat}{t t':SetTable}{h:Heap}(ho:h.get? a=some {cls:=.type "set",dict:=none,data:=.set es ep t})(he:∀e∈es'.toList,∃k u,e=(hashInt k,Value.int k u))
  (hm:es'.toList.map (λe=>numOf e.2)=ms) (hn:ms.Nodup) (hb:es'.size<scanBound) (hf:t'.fits es'.size=true) (ht:TabOk L t'):
  (h.update a (Obj.putSet es' t')).get? a=some {cls:=.type "set",dict:=none,data:=.set es' (ep+1) t'}/\SetX L a ms (h.update a (Obj.putSet es' t')):=by
 have e:=get?_update_self (Obj.putSet es' t') ho (by rw[putSet_of es' t' rfl];rfl)
 rw[putSet_of es' t' rfl]at e
 exact⟨e,es',ep+1,t',e,he,hm,hn,hb,hf,ht⟩
theorem add_int {k:Int}{u:Tok}{Q:Bool->Shared->Prop}(hS:SetX L a ms s.heap)(hroom:ms.length+1<scanBound)
  (h:∀h' ms',Heap.SameBut a s.heap h'->SetX L a ms' h'->ms'.Perm (if k∈ms then ms else k::ms)->∀b,Q b {s with heap:=h'}):wpAny (model prog w) A (setAddHashed a (.int k u) (hashInt k)) Q E s:=by
 obtain⟨es,ep,t,ho,he,hm,hn,hb,hf,ht⟩:=hS
 have hl:es.size=ms.length:=by rw[<- hm,length_map,length_toList]
 have hel:=elems_of (prog:=prog) (w:=w) he
 have hkey:=intKind_is prog w k u
 have hgw:∀(b:Bool) {s₁:Shared} {Q':Unit->Shared->Prop},Q' () s₁->wpAny (model prog w) A (match b with |true=>rule "set.scan.the-table-gave-way" |false=>pure ()) Q' E s₁:=λb s₁ Q' hq=>by
  cases b
  .exact wpAny_pure hq
  .exact wpAny_rule hq
 unfold setAddHashed setAddHashedIn
 refine wpAny_holding (wpAny_bind (wpAny_setState_of ho rfl hf ?_))
 dsimp only
 rw[byScan_of (knd:=intKind prog w) rfl hb hel,if_pos rfl]
 unfold setAddByScan
 refine wpAny_bind (wpAny_bind (wpAny_rule (wpAny_bind (wpAny_setScan_of (knd:=intKind prog w) hkey ho rfl hf hel ?_))))
 have hfm:=find_mem (prog:=prog) (w:=w) (k:=k) he hm
 cases hr:List.findIdx? (λe=>(intKind prog w).is k e.2) es.toList with
 |some j=>
  dsimp only
  have hk:k∈ms:=Decidable.byContradiction λz=>by rw[hfm.mpr z]at hr;cases hr
  refine wpAny_pure (wpAny_pure ?_)
  have:=h s.heap ms (Heap.SameBut.refl a s.heap) ⟨es,ep,t,ho,he,hm,hn,hb,hf,ht⟩ (by rw[if_pos hk])
  exact this _
 |none=>
  dsimp only
  have hk:k∉ms:=hfm.mp hr
  have hp:=layNew_perm t es (hashInt k) (.int k u)
  have hf1:=layNew_fits t es (hashInt k) (.int k u)
  have ht1:=layNew_ok ht es (hashInt k) (.int k u)
  generalize layNew t es (hashInt k) (.int k u)=Ln at hp hf1 ht1 ⊢
  obtain⟨es1,t1,wd,gv⟩:=Ln
  dsimp only at hp hf1 ht1 ⊢
  rw[toList_push]at hp
  have he1:∀e∈es1.toList,∃k u,e=(hashInt k,Value.int k u):=λe hx=>by
   rcases mem_append.mp (hp.mem_iff.mp hx) with z |z
   .exact he e z
   .exact ⟨k,u,mem_singleton.mp z⟩
  have hm1:(es1.toList.map λe=>numOf e.2).Perm (k::ms):=by
   refine (hp.map _).trans ?_
   rw[map_append,hm]
   exact List.perm_append_comm
  have hn1:(es1.toList.map λe=>numOf e.2).Nodup:=hm1.nodup_iff.mpr (nodup_cons.mpr ⟨hk,hn⟩)
  have hb1:es1.size<scanBound:=by
   rw[<- length_toList,hp.length_eq,length_append,length_toList,hl];exact hroom
  have fin:∀h' ms',Heap.SameBut a s.heap h'->SetX L a ms' h'->ms'.Perm (k::ms)->∀b,Q b {s with heap:=h'}:=λh' ms' x y z=>h h' ms' x y (by rw[if_neg hk];exact z)
  clear h
  refine wpAny_bind (hgw _ ?_)
  have tail:∀t2:SetTable,t2.fits es1.size=true->TabOk L t2->wpAny (model prog w) A (do
    storeSet a es1 t2
    if (!wd && t2.tooFull)=true then do
      (match (relayAll t2 es1 (SetTable.grown es1.size)).2.2 with |true=>rule "set.scan.the-table-gave-way" |false=>pure ())
      storeSet a (relayAll t2 es1 (SetTable.grown es1.size)).1 (relayAll t2 es1 (SetTable.grown es1.size)).2.1
      pure (some true)
     else pure (some true)) (λ(o:Option Bool) s'=>∃h' ms',o=some true/\s'={s with heap:=h'}/\Heap.SameBut a s.heap h'/\SetX L a ms' h'/\ms'.Perm (k::ms)) E s:=λt2 hf2 ht2=>by
   refine wpAny_bind (wpAny_storeSet_of ho rfl ?_ (fits_of_scanBound hb1))
   obtain⟨ho1,hS1⟩:=SetX.store ho he1 rfl hn1 hb1 hf2 ht2
   have sb1:=Heap.SameBut.update s.heap a (Obj.putSet es1 t2)
   split
   .have hp2:=relayAll_perm t2 es1 (SetTable.grown es1.size)
    have hf3:=relayAll_fits t2 es1 (SetTable.grown es1.size)
    have ht3:=relayAll_ok ht2 es1 (SetTable.grown es1.size)
    generalize relayAll t2 es1 (SetTable.grown es1.size)=Rl at hp2 hf3 ht3 ⊢
    obtain⟨es2,t3,g2⟩:=Rl
    dsimp only at hp2 hf3 ht3 ⊢
    have hb2:es2.size<scanBound:=by rw[<- length_toList,hp2.length_eq,length_toList];exact hb1
    have hm2:=(hp2.map λe:Int×Value=>numOf e.2).trans hm1
    refine wpAny_bind (hgw _ (wpAny_bind (wpAny_storeSet_of ho1 rfl ?_ (fits_of_scanBound hb2))))
    obtain⟨_,hS2⟩:=SetX.store ho1 (λe hx=>he1 e (hp2.mem_iff.mp hx)) rfl (hm2.nodup_iff.mpr (nodup_cons.mpr ⟨hk,hn⟩)) hb2 hf3 ht3
    exact wpAny_pure ⟨_,_,rfl,rfl,sb1.trans (Heap.SameBut.update _ a _),hS2,hm2⟩
   .exact wpAny_pure ⟨_,_,rfl,rfl,sb1,hS1,hm1⟩
  split
  .refine wpAny_bind ?_
   rw[hashByValue_scannable 8 rfl]
   refine wpAny_pure ?_
   refine wpAny_mono (tail t1 hf1 ht1) (λo s' hq=>?_) λ_ _ z=>z
   obtain⟨h',ms',rfl,rfl,z1,z2,z3⟩:=hq
   exact wpAny_pure (fin h' ms' z1 z2 z3 _)
  .refine wpAny_bind (wpAny_pure ?_)
   refine wpAny_mono (tail t1 hf1 ht1) (λo s' hq=>?_) λ_ _ z=>z
   obtain⟨h',ms',rfl,rfl,z1,z2,z3⟩:=hq
   exact wpAny_pure (fin h' ms' z1 z2 z3 _)
end
open PySem PyProof.Rows PySem.Spec
section
variable {prog:Program}{w:World}{A:Around}{R:Result->Shared->Prop}{I:Addr}{fp wr:List Addr}{G:Array GenState->Array GenState->Prop}{n:Nat}{P:Nat->Value->Prop}{St:Nat->Shared->Prop}{L:Bool}
theorem upd_loop (W:WalksS prog w A.in1 I fp wr G n P St)(S:Addr)(hSf:S∉fp)(val:Nat->Int)(hval:∀i v,P i v->∃t,v = .int (val i) t)(hb:n+1<scanBound):
  ∀(k i:Nat) (s:Shared) (ms:List Int),n-i=k->i<=n->St i s->SetX L S ms s.heap->ms.length<=i->(∀x,x∈ms↔∃j,j<i/\val j=x)->
   (∀s' ms',Moved (S::wr) G s s'->SetX L S ms' s'.heap->ms'.length<=n->(∀x,x∈ms'↔∃j,j<n/\val j=x)->R (.ok (.ret .none)) s')->
   codeAny (model prog w) A (.builtin "set.update.loop" ⟨[.ref S,.ref I],[]⟩) R s:=by
 have hSw:S∉wr:=λh=>hSf (W.sub _ h)
 have hsub:∀b∈wr,b∈S::wr:=λb hb=>mem_cons_of_mem _ hb
 intro k
 induction k with
 |zero=>
  intro i s ms hk hi hst hS hl hm hR
  obtain rfl:i=n:=by omega
  refine codeAny_builtin PyProof.Rows.F.entry_set_update_loop ?_
  rw[Around.under_plainId PyProof.Rows.F.plain_set_update_loop _]
  show wpAny _ A.in1 (pyNext (.ref I) >>= _) _ _ s
  refine wpAny_bind (W.done s _ _ hst λs' hmv=>?_)
  show wpAny _ A.in1 (ret Value.none) _ _ s'
  exact wpAny_pure (hR s' ms (hmv.mono hsub) (hS.stay λo e=>hmv.heap S _ hSw e) hl hm)
 |succ k ih=>
  intro i s ms hk hi hst hS hl hm hR
  have hlt:i<n:=by omega
  refine codeAny_builtin PyProof.Rows.F.entry_set_update_loop ?_
  rw[Around.under_plainId PyProof.Rows.F.plain_set_update_loop _]
  show wpAny _ A.in1 (pyNext (.ref I) >>= _) _ _ s
  refine wpAny_bind (W.item i s _ _ hlt hst λv s' hP hst' hmv=>?_)
  obtain⟨t,rfl⟩:=hval i v hP
  have hS':SetX L S ms s'.heap:=hS.stay λo e=>hmv.heap S _ hSw e
  show wpAny _ A.in1 (holding [Value.int (val i) t] (setAdd S (.int (val i) t)) >>= _) _ _ s'
  refine wpAny_bind (wpAny_holding ?_)
  unfold setAdd
  refine wpAny_holding (wpAny_bind ((intKind prog w).pyHash (k:=val i) (intKind_is _ _ _ _) ?_))
  refine add_int (s:={s' with toks:=s'.toks+1}) hS' (by omega) λh' ms' hsb hS2 hp b=>?_
  have hl2:ms'.length<=i+1:=by
   rw[hp.length_eq];split
   .omega
   .rw [length_cons];omega
  have hm2:∀x,x∈ms'↔∃j,j<i+1/\val j=x:=λx=>by
   rw[hp.mem_iff]
   have key:(∃j,j<i+1/\val j=x)↔(x=val i∨x∈ms):=by
    rw[hm x]
    constructor
    .rintro ⟨j,h1,h2⟩
     by_cases z:j=i
     .subst z;exact .inl h2.symm
     .exact .inr ⟨j,by omega,h2⟩
    .rintro (h | ⟨j,h1,h2⟩)
     .exact ⟨i,by omega,h.symm⟩
     .exact ⟨j,by omega,h2⟩
   rw[key]
   split
   .rename_i h;exact⟨.inr,λz=>z.elim (λz=>by rw[z];exact h) id⟩
   .exact mem_cons
  refine wpAny_pure ⟨plainId_quiet PyProof.Rows.F.plain_set_update_loop _,ih (i+1) _ ms' (by omega) hlt (W.frame _ s' _ _ hst' (le_succ _) λb hb o e=>?_) hS2 hl2 hm2 λs'' ms'' hm'' hS''=>?_⟩
  .rw [hsb.2 b (λh:b=S=>hSf (by rw[<- h];exact hb))];exact e
  .refine hR s'' ms'' (Moved.trans W.gtrans ((hmv.mono hsub).then_heap (le_succ _) λb o hb e=>?_) hm'') hS''
   rw[hsb.2 b (λh:b=S=>hb (by rw[h];exact mem_cons_self))];exact e
end
section
variable {prog:Program}{w:World}{A:Around}{E:Value->Shared->Prop}{s:Shared}
abbrev ledOf (w:World):Bool:=!w.params.followText "set-order"
abbrev set0 (L:Bool):Obj:={cls:=.type "set",dict:=none,data:=.set #[] 0 (.fresh 0 0 L)}
theorem set0_ok {h:Heap}{L:Bool}:SetX L h.objs.size [] (h.push (set0 L)):=
 ⟨#[],0,_,get?_push_size _ rfl,λe he=>by simp at he,rfl,nodup_nil,by unfold scanBound;decide,rfl,rfl,λ_=>List.Pairwise.nil⟩
theorem new_set1 (a:Value){Q₁:Value->Shared->Prop}(h:Q₁ (.ref s.heap.objs.size) {s with heap:=s.heap.push (set0 (ledOf w))}):
  codeAny (model prog w) A (.call (.builtin "set.__new__") ⟨[.type "set",a],[]⟩) (wants Q₁ E) s:=by
 refine codeAny_of_tree ?_
 show wpAny _ A.in1 (do checkBuiltinCall "set.__new__" ⟨[.type "set",a],[]⟩;again (.builtin "set.__new__" ⟨[.type "set",a],[]⟩)) _ _ s
 refine wpAny_bind (wpAny_of_eq (PySem.F.newCall_set_1 a) (wpAny_pure ⟨plainId_quiet F.plain_set_new _,codeAny_builtin F.entry_set_new ?_⟩))
 rw[Around.under_plainId F.plain_set_new _]
 unfold Builtin.«set.__new__» Builtin.Frozenset.newClass
 have hsub:=sub_set_self
 obtain⟨hp,g,d,tk,os⟩:=s
 dsimp only
 wp_walk
 refine wpAny_askSetting (wpAny_pure ?_)
 dsimp only
 simp only[newObj]
 exact wpAny_bind (wpAny_alloc (wpAny_pure (wpAny_pure h)))
theorem call_setX {l:Addr}{items:Array Value}{ns:List Int}{Q:Value->Shared->Prop}(hh:A.handled=none)(hl:s.heap.IsList l items)(hi:IntsAre items.toList ns)(hb:items.size+1<scanBound)
  (h:∀(h':Heap) (tk:Nat) ms,SetX (ledOf w) s.heap.objs.size ms h'->ms.length<=ns.length->(∀x,x∈ms↔x∈ns)->(∀b o,b<s.heap.objs.size->s.heap.get? b=some o->h'.get? b=some o)->Q (.ref s.heap.objs.size) {s with heap:=h',toks:=tk}):
  wpAny (model prog w) A (call (.type "set") [.ref l]) Q E s:=by
 obtain⟨c,tl,hmro⟩:=F.called_set.mro
 have hmade:=F.called_set.made
 have hsub:=F.called_set.sub
 refine wpAny_call (codeAny_of_tree ?_)
 show wpAny _ _ (callAny (.type "set") _) _ _ _
 refine wpAny_pure ⟨Code.quiet_builtin _ (by decide +kernel),codeAny_builtin F.entry_type_call ?_⟩
 rw[Around.under_plain (weight_type_call_type "set" [.ref l] []) rfl]
 have h1:=F.called_set.notType
 have h2:=F.called_set.canCreate
 have hct:=F.typeCall_set_1 (.ref l)
 repeat (any_goals (first |assumption |wp_step))
 refine codeAny_mono (new_set1 (.ref l) (E:=E) (Q₁:=λobj s₁=>obj = .ref s.heap.objs.size/\s₁={s with heap:=s.heap.push (set0 (ledOf w))}) ⟨rfl,rfl⟩) λr s₁ hr=>?_
 cases r with
 |error e=>exact hr
 |ok fl =>
  cases fl with
  |ret obj =>
   obtain⟨rfl,rfl⟩:=hr
   have hS:(s.heap.push (set0 (ledOf w))).get? s.heap.objs.size=some (set0 (ledOf w)):=get?_push_size _ rfl
   have hT:Shared.TypeIs {s with heap:=s.heap.push (set0 (ledOf w))} (.ref s.heap.objs.size) "set":=⟨_,hS,rfl⟩
   have hli:=F.called_set.init.lookup
   have hbi:=F.called_set.init.bind (.ref s.heap.objs.size)
   repeat (any_goals (first |assumption |wp_step))
   refine codeAny_mono (codeAny_call_builtin (R:=wants (λr s₂=>r = .none/\∃h' tk ms,s₂={s with heap:=h',toks:=tk}/\SetX (ledOf w) s.heap.objs.size ms h'/\ms.length<=ns.length/\(∀x,x∈ms↔x∈ns)/\(∀b o,b<s.heap.objs.size->s.heap.get? b=some o->h'.get? b=some o)) E) F.called_set.init.plain F.entry_set_init (check_set_init_1 hT ?_)) λr₂ s₂ hr₂=>?_
   .obtain ⟨ol,hol,hcl,nl,hdl⟩:=hl
    obtain⟨ocls,odict,odata,oslots⟩:=ol
    simp only at hcl hdl
    subst hcl;subst hdl
    have hol':(s.heap.push (set0 (ledOf w))).get? l=some {cls:=.type "list",dict:=odict,data:=.seq items nl,slots:=oslots}:=get?_push_of_some _ hol
    have hsls:=F.sub_list_set
    have hslf:=F.sub_list_frozenset
    have hne:(Value.type "list"==Value.type "dict")=false:=by decide
    have hl1:(s.heap.push (set0 (ledOf w))).IsList l items:=⟨_,hol',rfl,nl,rfl⟩
    unfold Builtin.«set.__init__» noKeywords Builtin.Frozenset.updateFrom
    generalize hPI:pyIter=PI
    wp_walk
    subst hPI
    refine wpAny_pyIter_list hl1 ?_
    refine wpAny_bind (wpAny_runValue ?_)
    have hlS:l<s.heap.objs.size:=lt_size hol
    have hh3:A.in1.in1.in1.handled=none:=by simp[hh]
    have hneI:l≠(s.heap.push (set0 (ledOf w))).objs.size:=by
     rw[size_push];exact ne_of_lt (lt_succ_of_lt hlS)
    have hSf:s.heap.objs.size∉[(s.heap.push (set0 (ledOf w))).objs.size,l]:=by
     rw[size_push];simp only[mem_cons,not_mem_nil,or_false,not_or]
     exact⟨ne_of_lt (lt_succ_self _),ne_of_gt hlS⟩
    have hval:∀(i:Nat) (v:Value),items[i]?=some v->∃t,v = .int (ns.getD i 0) t:=λi v hv=>IntsAre.int_at hi i v (by rw[getElem?_toList];exact hv)
    have hlen:items.size=ns.length:=by rw[<- length_toList];exact IntsAre.length hi
    refine upd_loop (L:=ledOf w) ((Walks.list hh3 _ l hneI items).toS) s.heap.objs.size hSf (λi=>ns.getD i 0) hval hb items.size 0 _ [] (by omega) (zero_le _) ⟨⟨_,get?_push_size _ rfl,rfl,rfl⟩,(hl1.push _)⟩ ?hS0 (Nat.le_refl _) ?hm0 ?hR
    case hS0=>exact set0_ok.stay λo e=>get?_push_of_some _ e
    case hm0=>exact λx=>⟨λz=>(by cases z),λ⟨j,z,_⟩=>absurd z (not_lt_zero _)⟩
    case hR=>
     intro s' ms hm hS' hlm hmm
     obtain⟨h',g',d',tk',os'⟩:=s'
     have eg:g'=s.gens:=hm.gens
     have ed:d'=s.drawn:=hm.drawn
     have eo:os'=s.os:=hm.os
     subst eg;subst ed;subst eo
     show wpAny _ _ _ _ _ _
     refine wpAny_pure ?_
     show wpAny _ _ (ret Value.none) _ _ _
     refine wpAny_pure ⟨rfl,h',tk',ms,rfl,hS',by omega,λx=>?_,λb o hb e=>?_⟩
     .rw [hmm x,hlen]
      constructor
      .rintro ⟨j,z1,z2⟩
       rw[<- z2,getD_eq_getElem?_getD,getElem?_eq_getElem z1];exact getElem_mem z1
      .intro z
       obtain⟨j,z1,z2⟩:=mem_iff_getElem.mp z
       exact⟨j,z1,by rw[getD_eq_getElem?_getD,getElem?_eq_getElem z1];exact z2⟩
     .have hb1:b≠s.heap.objs.size:=ne_of_lt hb
      have hb2:b≠(s.heap.push (set0 (ledOf w))).objs.size:=by rw[size_push];exact ne_of_lt (lt_succ_of_lt hb)
      exact hm.heap b o (by simp only[mem_cons,not_mem_nil,or_false,not_or];exact⟨hb1,hb2⟩) (get?_push_of_some _ (get?_push_of_some _ e))
   .cases r₂ with
    |error e=>exact hr₂
    |ok fl₂=>
     cases fl₂ with
     |ret r=>
      obtain⟨rfl,h',tk,ms,rfl,hS',z1,z2,hk'⟩:=hr₂
      repeat (any_goals (first |assumption |wp_step))
      exact h _ _ _ hS' z1 z2 hk'
     |_=>exact hr₂.elim
  |_=>exact hr.elim
end
namespace SI
theorem own:Manifest.owners.lookup (String.ofList ['r','o','t','a','r','e','t','i','_','t','e','s'].reverse)=some Manifest.sig_set_iterator:=by kernel_rfl
theorem slot:Slot "set_iterator" "__next__" "set_iterator.__next__":=
 .of (owner := "set_iterator") (n := "__next__") (by rw[typeLookup_type,builtinLookup_eq_fast];kernel_rfl) (by decide +kernel) (by decide +kernel) (by decide +kernel) (by first |exact .inl (by decide +kernel) |exact .inr (by decide +kernel)) (by rw[isSubtype_type];kernel_rfl)
theorem entry:entryFor table "set_iterator.__next__"=some Builtin.«set_iterator.__next__»:=entryFor_of_tree (by kernel_rfl)
theorem args (a:Value):argsOk "set_iterator.__next__" ⟨[a],[]⟩:=by
 unfold argsOk;rw[signature?_of (id := "set_iterator.__next__") (n:=['_','_','t','x','e','n','_','_']) (o:=['r','o','t','a','r','e','t','i','_','t','e','s']) (by kernel_rfl) own];kernel_rfl
theorem eIter:entryFor table "set.__iter__"=some Builtin.«frozenset.__iter__»:=
 entryFor_alias (id' := "frozenset.__iter__") (by kernel_rfl) (by first |rfl |decide +kernel | (unfold String.splitOn;simp +decide [String.splitOnAux])) (by decide +kernel) (by kernel_rfl)
end SI
abbrev siObj (f:Value)(i:Int)(a:Addr)(n:Int)(ep:Int):Obj:={cls:=.type "set_iterator",data:=.fields #[f,rawInt i,.ref a,rawInt n,rawInt ep]}
section
variable {prog:Program}{w:World}{A:Around}{E:Value->Shared->Prop}{s:Shared}{it a:Addr}{es:Array (Int×Value)}{ep:Nat}{t:SetTable}
theorem wpAny_setEntries_of {o:Obj}{Q:Array (Int×Value)->Shared->Prop}(ho:s.heap.get? a=some o)(hd:o.data = .set es ep t)(hf:t.fits es.size=true)(h:Q es s):wpAny (model prog w) A (setEntries a) Q E s:=by
 unfold setEntries
 exact wpAny_bind (wpAny_setState_of ho hd hf (wpAny_pure h))
theorem stop_exc {R:Fin->Shared->Prop}(hh:A.handled=none)(hQ:∀x h',(∀b o,s.heap.get? b=some o->h'.get? b=some o)->Shared.TypeIs {s with heap:=h'} x "StopIteration"->E x {s with heap:=h'}):
  wpAny (model prog w) A (newExc (.type "StopIteration") [] >>= λx=>raiseNew x) R E s:=by
 refine wpAny_bind ?_
 simp only[newExc,newTuple]
 refine wpAny_bind (wpAny_newObj_type ?_ (by size_fits))
 refine wpAny_bind (m:=firstArgMember _ _) (wpAny_of_eq (a:=Value.none) (by first |rfl | (simp only[firstArgMember];rfl)) ?_)
 refine wpAny_newObj_type ?_ (by size_fits)
 simp only[raiseNew]
 refine wpAny_bind (wpAny_handled ?_)
 rw[hh]
 refine wpAny_bind (wpAny_pure (wpAny_throw ?_))
 exact hQ _ _ (λb o e=>get?_push_of_some _ (get?_push_of_some _ e)) ⟨_,get?_push_size _ rfl,rfl⟩
theorem si_next {sl nx:Nat}{i:Nat}{x:Value}{Q:Option Value->Shared->Prop}(hi:s.heap.get? it=some (siObj (rawInt sl) i a es.size ep))(ho:s.heap.get? a=some {cls:=.type "set",dict:=none,data:=.set es ep t})(hf:t.fits es.size=true)
  (hn:∀(E:Value->Shared->Prop) (Q':Option (Value×Nat)->Shared->Prop),Q' (some (x,nx)) s->wpAny (model prog w) A.in1 (setNext a sl i ep) Q' E s)
  (hQ:∀h',h'.get? it=some (siObj (rawInt nx) (i+1:Nat) a es.size ep)->Heap.SameBut it s.heap h'->Q (some x) {s with heap:=h'}):wpAny (model prog w) A (pyNext (.ref it)) Q E s:=by
 have hT:s.TypeIs (.ref it) "set_iterator":=⟨_,hi,rfl⟩
 unfold pyNext
 refine wpAny_bind (wpAny_attempt (wpAny_callSpecial?_slot (name:=Str.ofString "__next__") hT SI.slot (wpAny_call_entry SI.slot hT SI.entry ?_ (SI.args _))))
 unfold Builtin.«set_iterator.__next__»
 refine wpAny_bind (wpAny_of_eq (a:=(Value.ref it,[])) rfl ?_)
 refine wpAny_bind (wpAny_fieldsOf hi rfl ?_)
 show wpAny _ _ (setEntries a >>= _) _ _ _
 refine wpAny_bind (wpAny_setEntries_of ho rfl hf ?_)
 rw[if_neg (by simp)]
 show wpAny _ _ (setNext a (sl:Int).toNat (i:Int).toNat (ep:Int).toNat >>= _) _ _ _
 rw[toNat_natCast,toNat_natCast,toNat_natCast]
 refine wpAny_bind (hn _ _ ?_)
 dsimp only
 refine wpAny_bind (wpAny_setField_rec hi (by simp) λh1 g1 b1=>?_)
 refine wpAny_bind (wpAny_setField_rec (s:={s with heap:=h1}) g1 (by simp) λh2 g2 b2=>?_)
 refine wpAny_pure ⟨x,rfl,wpAny_pure (hQ h2 ?_ (b1.trans b2))⟩
 rw[g2]
 simp
theorem si_end {sl:Nat}{i:Nat}{Q:Option Value->Shared->Prop}(hh:A.handled=none)(hi:s.heap.get? it=some (siObj (rawInt sl) i a es.size ep))(ho:s.heap.get? a=some {cls:=.type "set",dict:=none,data:=.set es ep t})(hf:t.fits es.size=true)
  (hn:∀(E:Value->Shared->Prop) (Q':Option (Value×Nat)->Shared->Prop),Q' none s->wpAny (model prog w) A.in1 (setNext a sl i ep) Q' E s)
  (hQ:∀h',(∀b o,b≠it->s.heap.get? b=some o->h'.get? b=some o)->Q none {s with heap:=h'}):wpAny (model prog w) A (pyNext (.ref it)) Q E s:=by
 have hT:s.TypeIs (.ref it) "set_iterator":=⟨_,hi,rfl⟩
 unfold pyNext
 refine wpAny_bind (wpAny_attempt (wpAny_callSpecial?_slot (name:=Str.ofString "__next__") hT SI.slot (wpAny_call_entry SI.slot hT SI.entry ?_ (SI.args _))))
 unfold Builtin.«set_iterator.__next__»
 refine wpAny_bind (wpAny_of_eq (a:=(Value.ref it,[])) rfl ?_)
 refine wpAny_bind (wpAny_fieldsOf hi rfl ?_)
 show wpAny _ _ (setEntries a >>= _) _ _ _
 refine wpAny_bind (wpAny_setEntries_of ho rfl hf ?_)
 rw[if_neg (by simp)]
 show wpAny _ _ (setNext a (sl:Int).toNat (i:Int).toNat (ep:Int).toNat >>= _) _ _ _
 rw[toNat_natCast,toNat_natCast,toNat_natCast]
 refine wpAny_bind (hn _ _ ?_)
 dsimp only
 refine wpAny_bind (wpAny_setField_rec hi (by simp) λh1 g1 b1=>?_)
 exact stop_exc (s:={s with heap:=h1}) (by simpa using hh) λx h' k hx=>wpAny_bind (wpAny_isInstance (T := "StopIteration") (b:=true) hx isSubtype_stop (wpAny_pure (hQ h' λb o hb e=>k b o (b1.extBut b o hb e))))
theorem sd_next {tp:Addr}{i p:Nat}{x:Value}{hx:Int}{ps:Array Value}{u:Tok}{ot:Obj}{nt:Nat}{Q:Option Value->Shared->Prop}(hi:s.heap.get? it=some (siObj (.ref tp) i a es.size ep))(ho:s.heap.get? a=some {cls:=.type "set",dict:=none,data:=.set es ep t})(hf:t.fits es.size=true)
  (hp:s.heap.get? tp=some ot) (hd:ot.data = .seq ps nt) (hpi:ps[i]?=some (.int p u)) (he:es[p]?=some (hx,x))
  (hQ:∀h',h'.get? it=some (siObj (.ref tp) (i+1:Nat) a es.size ep)->Heap.SameBut it s.heap h'->Q (some x) {s with heap:=h'}):wpAny (model prog w) A (pyNext (.ref it)) Q E s:=by
 have hT:s.TypeIs (.ref it) "set_iterator":=⟨_,hi,rfl⟩
 unfold pyNext
 refine wpAny_bind (wpAny_attempt (wpAny_callSpecial?_slot (name:=Str.ofString "__next__") hT SI.slot (wpAny_call_entry SI.slot hT SI.entry ?_ (SI.args _))))
 unfold Builtin.«set_iterator.__next__»
 refine wpAny_bind (wpAny_of_eq (a:=(Value.ref it,[])) rfl ?_)
 refine wpAny_bind (wpAny_fieldsOf hi rfl ?_)
 show wpAny _ _ (setEntries a >>= _) _ _ _
 refine wpAny_bind (wpAny_setEntries_of ho rfl hf ?_)
 rw[if_neg (by simp)]
 show wpAny _ _ (seqItems? (.ref tp) >>= _) _ _ _
 refine wpAny_bind (wpAny_seqItems hp hd ?_)
 dsimp only
 rw[toNat_natCast,hpi]
 dsimp only
 rw[toNat_natCast,toNat_natCast]
 unfold setNextDrawn
 refine wpAny_bind (wpAny_bind (wpAny_setState_of ho rfl hf ?_))
 dsimp only
 rw[if_neg (by simp),he]
 refine wpAny_pure ?_
 refine wpAny_bind (wpAny_setField_rec hi (by simp) λh1 g1 b1=>?_)
 refine wpAny_pure ⟨x,rfl,wpAny_pure (hQ h1 ?_ b1)⟩
 rw[g1]
 simp
theorem sd_end {tp:Addr}{i:Nat}{ps:Array Value}{ot:Obj}{nt:Nat}{Q:Option Value->Shared->Prop}(hh:A.handled=none)(hi:s.heap.get? it=some (siObj (.ref tp) i a es.size ep))(ho:s.heap.get? a=some {cls:=.type "set",dict:=none,data:=.set es ep t})(hf:t.fits es.size=true)
  (hp:s.heap.get? tp=some ot) (hd:ot.data = .seq ps nt) (hpi:ps[i]?=none)
  (hQ:∀h',(∀b o,b≠it->s.heap.get? b=some o->h'.get? b=some o)->Q none {s with heap:=h'}):wpAny (model prog w) A (pyNext (.ref it)) Q E s:=by
 have hT:s.TypeIs (.ref it) "set_iterator":=⟨_,hi,rfl⟩
 unfold pyNext
 refine wpAny_bind (wpAny_attempt (wpAny_callSpecial?_slot (name:=Str.ofString "__next__") hT SI.slot (wpAny_call_entry SI.slot hT SI.entry ?_ (SI.args _))))
 unfold Builtin.«set_iterator.__next__»
 refine wpAny_bind (wpAny_of_eq (a:=(Value.ref it,[])) rfl ?_)
 refine wpAny_bind (wpAny_fieldsOf hi rfl ?_)
 show wpAny _ _ (setEntries a >>= _) _ _ _
 refine wpAny_bind (wpAny_setEntries_of ho rfl hf ?_)
 rw[if_neg (by simp)]
 show wpAny _ _ (seqItems? (.ref tp) >>= _) _ _ _
 refine wpAny_bind (wpAny_seqItems hp hd ?_)
 dsimp only
 rw[toNat_natCast,hpi]
 dsimp only
 refine wpAny_bind (wpAny_setField_rec hi (by simp) λh1 g1 b1=>?_)
 refine wpAny_bind (wpAny_setField_rec (s:={s with heap:=h1}) g1 (by simp) λh2 g2 b2=>?_)
 exact stop_exc (s:={s with heap:=h2}) (by simpa using hh) λx h' k hx=>wpAny_bind (wpAny_isInstance (T := "StopIteration") (b:=true) hx isSubtype_stop (wpAny_pure (hQ h' λb o hb e=>k b o ((b1.trans b2).extBut b o hb e))))
end
open PySem PyProof.Rows PySem.Spec
namespace SI
theorem islot:Slot "set_iterator" "__iter__" "set_iterator.__iter__":=
 .of (owner := "set_iterator") (n := "__iter__") (by rw[typeLookup_type,builtinLookup_eq_fast];kernel_rfl) (by decide +kernel) (by decide +kernel) (by decide +kernel) (by first |exact .inl (by decide +kernel) |exact .inr (by decide +kernel)) (by rw[isSubtype_type];kernel_rfl)
theorem iargs (a:Value):argsOk "set_iterator.__iter__" ⟨[a],[]⟩:=by
 unfold argsOk;rw[signature?_of (id := "set_iterator.__iter__") (n:=['_','_','r','e','t','i','_','_']) (o:=['r','o','t','a','r','e','t','i','_','t','e','s']) (by kernel_rfl) own];kernel_rfl
theorem ientry:entryFor table "set_iterator.__iter__"=some Builtin.«dict_keyiterator.__iter__»:=
 entryFor_alias (id' := "dict_keyiterator.__iter__") (by kernel_rfl) (by first |rfl |decide +kernel | (unfold String.splitOn;simp +decide [String.splitOnAux])) (by decide +kernel) (by kernel_rfl)
end SI
theorem erase_perm {α:Type}:∀{l:List α} {i:Nat} (h:i<l.length),(l[i]::l.eraseIdx i).Perm l
 |x::l,0,_=>by simp
 |x::l,i+1,h=>by
  have ih:=erase_perm (l:=l) (i:=i) (by simpa using h)
  rw[List.getElem_cons_succ,List.eraseIdx_cons_succ]
  exact (List.Perm.swap _ _ _).trans (List.Perm.cons _ ih)
theorem pick_go {α:Type}(next:Nat->Nat):∀(f k:Nat) (left:List α) (out:Array α),left.length<=f->(pickOrder.go next f k left out).toList.Perm (out.toList++left)
 | 0,k,left,out,h=>by
  rw[pickOrder.go,List.eq_nil_of_length_eq_zero (by omega:left.length=0),append_nil]
 |f + 1,k,left,out,h=>by
  rw[pickOrder.go]
  split
  .rename_i x e
   have hlt:=(List.getElem?_eq_some_iff.mp e).1
   refine (pick_go next f (k+1) _ _ (by rw[List.length_eraseIdx_of_lt hlt];omega)).trans ?_
   rw[toList_push,append_assoc]
   refine List.Perm.append_left _ ?_
   obtain⟨_,rfl⟩:=List.getElem?_eq_some_iff.mp e
   exact (erase_perm hlt)
  .rename_i e
   have:left=[]:=by
    cases left with
    |nil=>rfl
    |cons y r=>rw[getElem?_eq_getElem (Nat.mod_lt _ (by simp))]at e;cases e
   rw[this,append_nil]
theorem pick_perm {α:Type}(next:Nat->Nat)(xs:Array α):(pickOrder next xs).toList.Perm xs.toList:=by
 have:=pick_go next xs.size 0 xs.toList #[] (by simp)
 simpa[pickOrder] using this
section
variable {prog:Program}{w:World}{A:Around}{E:Value->Shared->Prop}{s:Shared}{it a:Addr}{es:Array (Int×Value)}{ep:Nat}{t:SetTable}
theorem wpAny_byText {Q:Bool->Shared->Prop}(h:Q (w.params.followText "set-order") s):wpAny (model prog w) A setsByText Q E s:=by
 unfold setsByText
 exact wpAny_bind (wpAny_askSetting (wpAny_pure h))
theorem wpAny_choose {δ:Model}{n:Nat}{Q:Nat->Shared->Prop}(hn:n≠0)(h:∀i d,i<n->Q i {s with drawn:=d}):wpAny δ A (choose .order n) Q E s:=λΓ p hΓ=>⟨hn,h _ _ (Nat.mod_lt _ (by omega))⟩
theorem draw_perm {α:Type}{δ:Model}:∀(n:Nat) (xs:List α) (s:Shared) {Q:List α->Shared->Prop},xs.length=n->(∀ys d,ys.Perm xs->Q ys {s with drawn:=d})->wpAny δ A (drawOrder n xs) Q E s
 | 0,xs,s,Q,hl,h=>by
  cases List.eq_nil_of_length_eq_zero hl
  exact wpAny_pure (h [] s.drawn (List.Perm.refl _))
 |n+1,[],s,Q,hl,h=>by cases hl
 |n+1,x::xs,s,Q,hl,h=>by
  show wpAny δ A (choose .order (x::xs).length >>= _) Q E s
  refine wpAny_bind (wpAny_choose (by simp) λi d hi=>?_)
  rw[getElem?_eq_getElem hi]
  refine wpAny_bind (draw_perm n _ _ (by rw[List.length_eraseIdx_of_lt hi];omega) λys d' hp=>wpAny_pure (h _ d' ?_))
  exact (List.Perm.cons _ hp).trans (erase_perm hi)
theorem si_self {f:Value}{i n e:Int}{Q:Value->Shared->Prop}(hi:s.heap.get? it=some (siObj f i a n e))(h:Q (.ref it) s):wpAny (model prog w) A (pyIter (.ref it)) Q E s:=by
 have hT:s.TypeIs (.ref it) "set_iterator":=⟨_,hi,rfl⟩
 refine wpAny_pyIter_slot hT SI.islot (wpAny_call_entry SI.islot hT SI.ientry ?_ (SI.iargs _))
 show wpAny _ _ (ret (.ref it)) _ _ s
 exact wpAny_pure ⟨_,rfl,"set_iterator",_,hT,SI.slot.lookup,h⟩
abbrev setOb (es:Array (Int×Value))(ep:Nat)(t:SetTable):Obj:={cls:=.type "set",dict:=none,data:=.set es ep t}
theorem walk_text (hh:A.handled=none)(hb:w.params.followText "set-order"=true)(I:Addr)(hne:a≠I)(hf:t.fits es.size=true):
  Walks prog w A I [I,a] [I] es.size (λi v=>((pickOrder (w.params.setOrder a ep) es)[i]?).map (·.2)=some v) (λi h=>i<=es.size/\h.get? I=some (siObj (rawInt (0:Nat)) i a es.size ep)/\h.get? a=some (setOb es ep t)) where
 sub:=λb hb=>by simp at hb;simp[hb]
 frame:=λ_ _ _ x hk=>⟨x.1,hk I (by simp) _ x.2.1,hk a (by simp) _ x.2.2⟩
 item:=λi s Q E hi x hQ=>by
  have hz:(pickOrder (w.params.setOrder a ep) es).size=es.size:=by rw[<- length_toList,(pick_perm _ _).length_eq,length_toList]
  have hx:(pickOrder (w.params.setOrder a ep) es)[i]?=some ((pickOrder (w.params.setOrder a ep) es)[i]'(by omega)):=getElem?_pos _ i (by omega)
  refine si_next (nx:=0) (x:=((pickOrder (w.params.setOrder a ep) es)[i]'(by omega)).2) x.2.1 x.2.2 hf (λE Q' q=>?_) λh' g1 g2=>hQ _ h' s.toks (by rw[hx];rfl) ⟨hi,g1,(g2.2 a hne).trans x.2.2⟩ λb o hb e=>g2.extBut b o (λz=>hb (by simp[z])) e
  unfold setNext
  refine wpAny_bind (wpAny_setState_of x.2.2 rfl hf ?_)
  refine wpAny_bind (wpAny_byText ?_)
  rw[if_pos hb,if_neg (by simp)]
  refine wpAny_bind (wpAny_bind (wpAny_setState_of x.2.2 rfl hf ?_))
  refine wpAny_bind (wpAny_byText ?_)
  rw[if_pos hb]
  refine wpAny_bind (wpAny_askSetting (wpAny_pure (wpAny_pure ?_)))
  show Q' (((pickOrder (w.params.setOrder a ep) es)[i]?).map _) s
  rw[hx]
  exact q
 done:=λs Q E x hQ=>by
  have hz:(pickOrder (w.params.setOrder a ep) es).size=es.size:=by rw[<- length_toList,(pick_perm _ _).length_eq,length_toList]
  refine si_end hh x.2.1 x.2.2 hf (λE Q' q=>?_) λh' k=>hQ h' s.toks λb o hb e=>k b o (λz=>hb (by simp[z])) e
  unfold setNext
  refine wpAny_bind (wpAny_setState_of x.2.2 rfl hf ?_)
  refine wpAny_bind (wpAny_byText ?_)
  rw[if_pos hb,if_neg (by simp)]
  refine wpAny_bind (wpAny_bind (wpAny_setState_of x.2.2 rfl hf ?_))
  refine wpAny_bind (wpAny_byText ?_)
  rw[if_pos hb]
  refine wpAny_bind (wpAny_askSetting (wpAny_pure (wpAny_pure ?_)))
  show Q' (((pickOrder (w.params.setOrder a ep) es)[es.size]?).map _) s
  rw[Array.getElem?_eq_none (by omega)]
  exact q
 self:=λ_ _ _ _ x hQ=>si_self x.2.1 hQ
def slOf (t:SetTable)(i:Nat):Nat:=if i=0 then 0 else t.place.getD (i-1) 0+1
theorem below_sl (hr:Ris t.place){i:Nat}(hi:i<=t.place.size):SetTable.below t.place (slOf t i)=i:=by
 obtain⟨h1,h2,h3⟩:=below_ok hr (slOf t i)
 generalize hc:SetTable.below t.place (slOf t i)=c at h1 h2 h3
 rcases Nat.lt_trichotomy c i with z |z |z
 .exfalso
  have hi1:i-1<t.place.size:=by omega
  have:=h3 (i-1) hi1 (by omega)
  unfold slOf at this
  rw[if_neg (by omega),Array.getD_eq_getD_getElem?,getElem?_pos t.place (i-1) hi1]at this
  simp at this
  omega
 .exact z
 .exfalso
  have:=h2 i (by omega) z
  unfold slOf at this
  split at this
  .omega
  .have hi1:i-1<t.place.size:=by omega
   rw[Array.getD_eq_getD_getElem?,getElem?_pos t.place (i-1) hi1]at this
   have h4:=ris_at hr (show i-1<i by omega) (by omega)
   simp at this
   omega
theorem walk_tab (hh:A.handled=none)(hb:w.params.followText "set-order"=false)(I:Addr)(hne:a≠I)(hf:t.fits es.size=true)(hd:(!t.plain && decide (es.size > 1))=false)(hl:t.led=true)(hr:Ris t.place)(hz:t.place.size=es.size):
  Walks prog w A I [I,a] [I] es.size (λi v=>(es[i]?).map (·.2)=some v) (λi h=>i<=es.size/\h.get? I=some (siObj (rawInt (slOf t i:Nat)) i a es.size ep)/\h.get? a=some (setOb es ep t)) where
 sub:=λb hb=>by simp at hb;simp[hb]
 frame:=λ_ _ _ x hk=>⟨x.1,hk I (by simp) _ x.2.1,hk a (by simp) _ x.2.2⟩
 item:=λi s Q E hi x hQ=>by
  have hx:es[i]?=some es[i]:=getElem?_pos _ i hi
  refine si_next (nx:=slOf t (i+1)) (x:=es[i].2) x.2.1 x.2.2 hf (λE Q' q=>?_) λh' g1 g2=>hQ _ h' s.toks (by rw[hx];rfl) ⟨hi,g1,(g2.2 a hne).trans x.2.2⟩ λb o hb e=>g2.extBut b o (λz=>hb (by simp[z])) e
  unfold setNext
  refine wpAny_bind (wpAny_setState_of x.2.2 rfl hf (wpAny_bind (wpAny_byText ?_)))
  rw[if_neg (by rw[hb];decide)]
  show wpAny _ _ (if (!t.plain && decide (es.size > 1))=true then _ else _) _ _ _
  rw[if_neg (by rw[hd];decide)]
  show wpAny _ _ ((if (!t.led && !es.isEmpty)=true then unsupported _ else pure _) >>= _) _ _ _
  rw[hl,if_neg (by simp)]
  refine wpAny_bind (wpAny_pure (wpAny_pure ?_))
  rw[below_sl hr (by omega),hx,getElem?_pos t.place i (by omega)]
  dsimp only
  have e:slOf t (i+1)=t.place[i]'(by omega)+1:=by
   unfold slOf
   rw[if_neg (by omega),add_sub_cancel,Array.getD_eq_getD_getElem?,getElem?_pos t.place i (by omega)]
   rfl
  rw[e]at q
  exact q
 done:=λs Q E x hQ=>by
  refine si_end hh x.2.1 x.2.2 hf (λE Q' q=>?_) λh' k=>hQ h' s.toks λb o hb e=>k b o (λz=>hb (by simp[z])) e
  unfold setNext
  refine wpAny_bind (wpAny_setState_of x.2.2 rfl hf (wpAny_bind (wpAny_byText ?_)))
  rw[if_neg (by rw[hb];decide)]
  show wpAny _ _ (if (!t.plain && decide (es.size > 1))=true then _ else _) _ _ _
  rw[if_neg (by rw[hd];decide)]
  show wpAny _ _ ((if (!t.led && !es.isEmpty)=true then unsupported _ else pure _) >>= _) _ _ _
  rw[hl,if_neg (by simp)]
  refine wpAny_bind (wpAny_pure (wpAny_pure ?_))
  rw[below_sl hr (by omega),Array.getElem?_eq_none (by omega)]
  exact q
 self:=λ_ _ _ _ x hQ=>si_self x.2.1 hQ
theorem walk_drawn (hh:A.handled=none)(I tp:Addr)(hne:a≠I)(hnt:tp≠I)(hf:t.fits es.size=true)(ys:List Nat)(hy:ys.Perm (List.range es.size)){ot:Obj}{nt:Nat}(hd:ot.data = .seq (ys.map λi:Nat=>rawInt i).toArray nt):
  Walks prog w A I [I,a,tp] [I] es.size (λi v=>(ys[i]?).bind (λp=>(es[p]?).map (·.2))=some v) (λi h=>i<=es.size/\h.get? I=some (siObj (.ref tp) i a es.size ep)/\h.get? a=some (setOb es ep t)/\h.get? tp=some ot) where
 sub:=λb hb=>by simp at hb;simp[hb]
 frame:=λ_ _ _ x hk=>⟨x.1,hk I (by simp) _ x.2.1,hk a (by simp) _ x.2.2.1,hk tp (by simp) _ x.2.2.2⟩
 item:=λi s Q E hi x hQ=>by
  have hl:ys.length=es.size:=by rw[hy.length_eq,length_range]
  have hyi:ys[i]?=some (ys[i]'(by omega)):=getElem?_eq_getElem (by omega)
  have hp:ys[i]'(by omega)<es.size:=mem_range.mp (hy.mem_iff.mp (getElem_mem _))
  generalize hpp:ys[i]'(by omega)=p at hyi hp
  have hx:es[p]?=some (es[p].1,es[p].2):=getElem?_pos _ p hp
  refine sd_next (p:=p) (u:=0) x.2.1 x.2.2.1 hf x.2.2.2 hd (by simp[hyi,rawInt]) hx λh' g1 g2=>hQ _ h' s.toks (by rw[hyi];show (es[p]?).map _=_;rw[hx];rfl) ⟨hi,g1,(g2.2 a hne).trans x.2.2.1,(g2.2 tp hnt).trans x.2.2.2⟩ λb o hb e=>g2.extBut b o (λz=>hb (by simp[z])) e
 done:=λs Q E x hQ=>by
  have hl:ys.length=es.size:=by rw[hy.length_eq,length_range]
  exact sd_end hh x.2.1 x.2.2.1 hf x.2.2.2 hd (by simp;omega) λh' k=>hQ h' s.toks λb o hb e=>k b o (λz=>hb (by simp[z])) e
 self:=λ_ _ _ _ x hQ=>si_self x.2.1 hQ
end
open PySem PyProof.Rows PySem.Spec
section
variable {prog:Program}{w:World}{A:Around}{E:Value->Shared->Prop}{s:Shared}{a:Addr}{ms:List Int}
structure SWalk (prog:Program) (w:World) (I a:Addr) (z:Nat) (vs:List Value) (h:Heap):Prop where
 ex:∃(fp:List Addr) (St:Nat->Heap->Prop),(∀A:Around,A.handled=none->Walks prog w A I fp [I] vs.length (λi v=>vs[i]?=some v) St)/\St 0 h/\∀b∈fp,b=a∨z<=b/\b<h.objs.size
theorem Walks.cg {A:Around}{I:Addr}{fp wr:List Addr}{n n':Nat}{P P':Nat->Value->Prop}{St:Nat->Heap->Prop}(W:Walks prog w A I fp wr n P St)(e:n=n')(h:∀i v,P i v->P' i v):Walks prog w A I fp wr n' P' St:=by
 subst e
 exact⟨W.sub,W.frame,λi s Q E hi st hQ=>W.item i s Q E hi st λv h' tk hP=>hQ v h' tk (h i v hP),W.done,W.self⟩
theorem ints_perm {es:List (Int×Value)}{ms:List Int}(he:∀e∈es,∃k u,e=(hashInt k,Value.int k u))(hm:es.map (λe=>numOf e.2)=ms){vs:List Value}(hp:vs.Perm (es.map (·.2))):∃ns,IntsAre vs ns/\ns.Perm ms:=by
 refine⟨vs.map numOf,intsAre_map vs λv hv=>?_,?_⟩
 .obtain ⟨e,he',rfl⟩:=mem_map.mp (hp.mem_iff.mp hv)
  obtain⟨k,u,rfl⟩:=he e he'
  exact⟨k,u,rfl⟩
 .rw [<- hm]
  have:=hp.map numOf
  rwa[map_map]at this
theorem iter_set {Q:Value->Shared->Prop}(hS:SetX (ledOf w) a ms s.heap)
  (h:∀I vs ns h' d,(∀b o,s.heap.get? b=some o->h'.get? b=some o)->s.heap.objs.size<=I->I<h'.objs.size->IntsAre vs ns->ns.Perm ms->SWalk prog w I a s.heap.objs.size vs h'->Q (.ref I) {s with heap:=h',drawn:=d}):wpAny (model prog w) A (pyIter (.ref a)) Q E s:=by
 obtain⟨es,ep,t,ho,he,hm,hn,hb,hf,ht⟩:=hS
 have hT:s.TypeIs (.ref a) "set":=⟨_,ho,rfl⟩
 have hlt:=lt_size ho
 have hz:t.place.size=es.size:=by
  have:=hf
  simp only[SetTable.fits,and_eq_true,beq_iff_eq]at this
  exact this.1
 refine wpAny_pyIter_slot hT F.slot_set_iter (wpAny_call_entry F.slot_set_iter hT SI.eIter ?_ (F.args_set_iter_1 _))
 unfold Builtin.«frozenset.__iter__»
 refine wpAny_bind (wpAny_of_eq (a:=a) rfl ?_)
 refine wpAny_bind (wpAny_bind (wpAny_setEntries_of ho rfl hf (wpAny_pure ?_)))
 unfold setDrawn
 refine wpAny_bind (wpAny_bind (wpAny_setState_of ho rfl hf (wpAny_bind (wpAny_byText (wpAny_pure ?_)))))
 show wpAny _ _ (if (!w.params.followText "set-order" && (!t.plain && decide (es.size > 1)))=true then _ else _) _ _ _
 by_cases hdr:(!w.params.followText "set-order" && (!t.plain && decide (es.size > 1)))=true
 .rw [if_pos hdr]
  refine wpAny_bind (draw_perm _ _ _ (by simp) λys d hy=>?_)
  refine wpAny_bind (wpAny_newTuple ?_ (by rw[length_map,hy.length_eq,length_range];exact fits_of_scanBound hb))
  dsimp only
  generalize hto:({cls:=.type "tuple",data:=.seq (ys.map λi:Nat=>rawInt i).toArray}:Obj)=ot
  have hod:ot.data = .seq (ys.map λi:Nat=>rawInt i).toArray:=by rw[<- hto]
  have hl:ys.length=es.size:=by rw[hy.length_eq,length_range]
  refine wpAny_bind (wpAny_setEpoch_of (get?_push_of_some _ ho) rfl hf ?_)
  refine wpAny_bind (wpAny_newObj_type (wpAny_pure ⟨_,rfl,"set_iterator",_,⟨_,get?_push_size _ rfl,rfl⟩,SI.slot.lookup,?_⟩))
  dsimp only
  have hsz:(s.heap.push ot).objs.size=s.heap.objs.size+1:=by rw[size_push]
  have hfr:ot.isFreed=false:=by rw[<- hto];rfl
  have hvs:((ys.map λp=>(es[p]?.map (·.2)).getD .none).Perm (es.toList.map (·.2))):=by
   refine (hy.map _).trans (List.Perm.of_eq ?_)
   refine ext_getElem (by simp) λi h1 h2=>?_
   simp at h1 h2
   simp[h1]
  obtain⟨ns,hI,hp⟩:=ints_perm he hm hvs
  refine h _ _ ns _ d (λb o e=>get?_push_of_some _ (get?_push_of_some _ e)) (by show s.heap.objs.size<=(s.heap.push ot).objs.size;rw[hsz];omega) (by simp only[size_push];exact lt_succ_self _) hI hp ⟨[(s.heap.push ot).objs.size,a,s.heap.objs.size],_,λA hA=>Walks.cg (walk_drawn (ep:=ep) (t:=t) hA _ s.heap.objs.size (by show a≠(s.heap.push ot).objs.size;rw[hsz];exact ne_of_lt (lt_succ_of_lt hlt)) (by show s.heap.objs.size≠(s.heap.push ot).objs.size;rw[hsz];exact ne_of_lt (lt_succ_self _)) hf ys hy hod) (by simp[hl]) λi v q=>?_,⟨zero_le _,get?_push_size _ rfl,get?_push_of_some _ (get?_push_of_some _ ho),get?_push_of_some _ (get?_push_size _ hfr)⟩,λb hb=>?_⟩
  .rw [getElem?_map]
   cases hy':ys[i]? with
   |none=>rw[hy']at q;cases q
   |some p=>
    rw[hy']at q
    have q:(es[p]?).map (·.2)=some v:=q
    show some ((Option.map (λx=>x.2) es[p]?).getD Value.none)=_
    rw[q];rfl
  .rw [size_push,hsz]
   simp only[mem_cons,not_mem_nil,or_false]at hb
   rcases hb with rfl |rfl |rfl
   .right;rw[hsz];exact⟨le_succ _,lt_succ_self _⟩
   .left;rfl
   .right;exact⟨Nat.le_refl _,lt_succ_of_lt (lt_succ_self _)⟩
 .rw [if_neg hdr]
  refine wpAny_bind (wpAny_pure (wpAny_bind (wpAny_setEpoch_of ho rfl hf ?_)))
  refine wpAny_bind (wpAny_newObj_type (wpAny_pure ⟨_,rfl,"set_iterator",_,⟨_,get?_push_size _ rfl,rfl⟩,SI.slot.lookup,?_⟩))
  have mem:∀b∈[s.heap.objs.size,a],b=a∨s.heap.objs.size<=b/\b<(s.heap.push (siObj (rawInt (0:Nat)) (0:Nat) a es.size ep)).objs.size:=λb hb=>by
   rw[size_push]
   simp only[mem_cons,not_mem_nil,or_false]at hb
   rcases hb with rfl |rfl
   .right;omega
   .left;rfl
  have st0:(0:Nat)<=es.size/\(s.heap.push (siObj (rawInt (0:Nat)) (0:Nat) a es.size ep)).get? s.heap.objs.size=some (siObj (rawInt (0:Nat)) (0:Nat) a es.size ep)/\(s.heap.push (siObj (rawInt (0:Nat)) (0:Nat) a es.size ep)).get? a=some (setOb es ep t):=⟨zero_le _,get?_push_size _ rfl,get?_push_of_some _ ho⟩
  have hne:a≠s.heap.objs.size:=ne_of_lt hlt
  cases hbt:w.params.followText "set-order" with
  |true=>
   obtain⟨ns,hI,hp⟩:=ints_perm he hm ((pick_perm (w.params.setOrder a ep) es).map (·.2))
   refine h _ _ ns _ s.drawn (λb o e=>get?_push_of_some _ e) (Nat.le_refl _) (by rw[size_push];omega) hI hp ⟨[s.heap.objs.size,a],_,λA hA=>Walks.cg (walk_text (ep:=ep) (t:=t) hA hbt _ hne hf) (by rw[length_map,(pick_perm _ _).length_eq,length_toList]) λi v q=>?_,st0,mem⟩
   rw[getElem?_map,getElem?_toList];exact q
  |false=>
   have hd:(!t.plain && decide (es.size > 1))=false:=by rw[hbt]at hdr;simpa using hdr
   have hr:Ris t.place:=by
    cases hp:t.plain with
    |true=>exact ht.ris hp
    |false=>
     rw[hp]at hd
     have:¬ es.size > 1:=by simpa using hd
     unfold Ris
     have hl:t.place.toList.length<=1:=by rw[length_toList];omega
     match t.place.toList,hl with
     | [],_=>exact List.Pairwise.nil
     | [_],_=>simp
   have hld:t.led=true:=by rw[ht.led];show (!w.params.followText "set-order")=true;rw[hbt];rfl
   obtain⟨ns,hI,hp⟩:=ints_perm he hm (List.Perm.refl (es.toList.map (·.2)))
   refine h _ _ ns _ s.drawn (λb o e=>get?_push_of_some _ e) (Nat.le_refl _) (by rw[size_push];omega) hI hp ⟨[s.heap.objs.size,a],_,λA hA=>Walks.cg (walk_tab (ep:=ep) (t:=t) hA hbt _ hne hf hd hld hr hz) (by simp) λi v q=>?_,st0,mem⟩
   rw[getElem?_map,getElem?_toList];exact q
theorem len_set:typeLookup (.type "set") "__len__"=pure (some (.builtin "set.__len__")):=by rw[typeLookup_type];kernel_rfl
theorem hint_set {Q:Bool->Shared->Prop}(hT:s.TypeIs (.ref a) "set")(h:Q false s):wpAny (model prog w) A (Builtin.List.listLengthHint (.ref a)) Q E s:=by
 refine wpAny_bind (wpAny_specialOf hT len_set ?_)
 generalize hid:("set.__len__":String)=id0
 wp_delta
 subst hid
 refine wpAny_bind (wpAny_isInstance (T := "set") (b:=true) hT (by rw[isSubtype_type];kernel_rfl) ?_)
 refine wpAny_ite_split (λhab=>absurd hab (by decide)) (λ_=>?_)
 refine wpAny_ite_split (λ_=>?_) (λhab=>absurd (by decide +kernel) hab)
 exact wpAny_bind (wpAny_typeOf hT (wpAny_pure h))
theorem collect_set {Q:List Value->Shared->Prop}(hh:A.handled=none)(hS:SetX (ledOf w) a ms s.heap)
  (h:∀vs ns h' tk d,(∀b o,s.heap.get? b=some o->h'.get? b=some o)->s.heap.objs.size<=h'.objs.size->IntsAre vs ns->ns.Perm ms->Q vs {s with heap:=h',toks:=tk,drawn:=d}):wpAny (model prog w) A (collect (.ref a)) Q E s:=by
 have hn:ms.length<scanBound:=by obtain⟨es,_,_,_,_,hm,_,hb,_⟩:=hS;rw[<- hm,length_map,length_toList];exact hb
 obtain⟨es,ep,t,ho,_⟩:=id hS
 have hlt:=lt_size ho
 unfold collect
 refine wpAny_bind (wpAny_runValue (codeAny_builtin entry_proto_collect' ?_))
 show wpAny _ _ (do again (.builtin "list.__iadd__" ⟨[<- newList [],.ref a],[]⟩)) _ _ s
 refine wpAny_bind (wpAny_newList (wpAny_pure ⟨Code.quiet_builtin _ (by decide +kernel),codeAny_builtin entry_list_iadd' ?_⟩))
 show wpAny _ _ (Builtin.List.listExtendWith (.ref s.heap.objs.size) (.ref a) (.ref s.heap.objs.size)) _ _ {s with heap:=s.heap.push (seqObj "list" #[] 0)}
 unfold Builtin.List.listExtendWith
 have hS1:SetX (ledOf w) a ms (s.heap.push (seqObj "list" #[] 0)):=hS.stay λo e=>get?_push_of_some _ e
 have hT:Shared.TypeIs {s with heap:=s.heap.push (seqObj "list" #[] 0)} (.ref a) "set":=⟨_,get?_push_of_some _ ho,rfl⟩
 have hl0:(s.heap.push (seqObj "list" #[] 0)).get? s.heap.objs.size=some (seqObj "list" #[] 0):=get?_push_size _ rfl
 refine wpAny_bind (wpAny_typeOf hT ?_)
 rw[if_neg (by
  have h1:Builtin.List.listSameRef (.ref s.heap.objs.size) (.ref a)=false:=beq_eq_false_iff_ne.mpr (ne_of_gt hlt)
  have h2:(Value.type "set"==Value.type "list")=false:=rfl
  have h3:(Value.type "set"==Value.type "tuple")=false:=rfl
  rw[h1,h2,h3];decide)]
 refine wpAny_bind (iter_set (s:={s with heap:=s.heap.push (seqObj "list" #[] 0)}) hS1 λI vs ns h1 d k1 z1 z2 hI hp hW=>?_)
 obtain⟨fp,St,hW,st0,hfp⟩:=hW
 have hvl:vs.length=ms.length:=(IntsAre.length hI).trans hp.length_eq
 refine wpAny_bind (wpAny_holding (hint_set (s:={s with heap:=h1,drawn:=d}) ⟨_,k1 _ _ (get?_push_of_some _ ho),rfl⟩ ?_))
 refine wpAny_ite_split (λ_=>?_) (λhab=>absurd (by decide +kernel) hab)
 refine wpAny_bind (wpAny_rule ?_)
 have g1:=k1 _ _ hl0
 have hsz1:s.heap.objs.size+1<=I:=by have:=z1;rw[size_push]at this;exact this
 refine wpAny_bind ?_
 unfold Builtin.List.listTouch
 refine wpAny_bind (listUpdate_at (s:={s with heap:=h1,drawn:=d}) g1 rfl ?_)
 have g2:=get?_update_seq g1 (·.push Value.none)
 refine listUpdate_at g2 rfl ?_
 have g3:=get?_update_seq g2 (·.pop)
 generalize hh2:(h1.update s.heap.objs.size (Obj.mapSeq (·.push Value.none))).update s.heap.objs.size (Obj.mapSeq (·.pop))=h2 at g3
 have k2:∀b o,b≠s.heap.objs.size->h1.get? b=some o->h2.get? b=some o:=λb o hb e=>by
  rw[<- hh2,get?_update_other _ _ (Ne.symm hb),get?_update_other _ _ (Ne.symm hb)];exact e
 have z3:h2.objs.size=h1.objs.size:=by rw[<- hh2,Heap.size_update,Heap.size_update]
 have hLf:s.heap.objs.size∉fp:=λz=>by
  rcases hfp _ z with e | ⟨e,_⟩
  .exact absurd e (ne_of_gt hlt)
  .have e:(s.heap.push (seqObj "list" #[] 0)).objs.size<=s.heap.objs.size:=e
   rw[size_push]at e;omega
 have st1:St 0 h2:=(hW callerA rfl).frame 0 h1 h2 st0 λb hb o e=>k2 b o (λz=>hLf (by rw[<- z];exact hb)) e
 have hI0:s.heap.objs.size≠I:=by omega
 refine wpAny_pure ⟨plainId_quiet F.plain_extend_loop _,?_⟩
 refine codeAny_extend_loopS ((hW _ (by simpa using hh)).toS) (by rw[hvl];exact fits_of_scanBound hn) s.heap.objs.size hLf (.ref s.heap.objs.size) vs.length 0 _ _ _ rfl (zero_le _) st1 g3 (ItemsOf.nil _) λs' acc c' hm hS' hacc=>?_
 rw[Moved.eq_with hm]
 have ev:acc.toList=vs:=by
  obtain⟨q1,q2⟩:=hacc
  refine ext_getElem? λi=>?_
  by_cases hi:i<vs.length
  .have hia:i<acc.size:=by omega
   have:=q2 i acc[i] (by simp)
   rw[getElem?_toList,Array.getElem?_eq_getElem hia,this]
  .rw [getElem?_eq_none (by rw[length_toList];omega),getElem?_eq_none (by omega)]
 show wpAny (model prog w) A (do
   let o <- load s.heap.objs.size
   match o.data with
   | .seq xs _=>pure xs.toList
   |_=>unsupported "internal:collect") Q E _
 refine wpAny_bind (wpAny_load hS' ?_)
 show wpAny _ _ (pure acc.toList) Q E _
 rw[ev]
 have kk:∀b o,s.heap.get? b=some o->s'.heap.get? b=some o:=λb o e=>by
  have hb:=lt_size e
  refine hm.heap b o (λz=>?_) (k2 b o (ne_of_lt hb) (k1 b o (get?_push_of_some _ e)))
  rcases mem_cons.mp z with z |z
  .exact absurd z (ne_of_lt hb)
  .exact absurd (mem_singleton.mp z) (ne_of_lt (lt_of_lt_of_le (lt_succ_of_lt hb) hsz1))
 exact wpAny_pure (h vs ns s'.heap s'.toks d kk (Nat.le_of_lt (lt_size hS')) hI hp)
end
section
variable {prog:Program}{w:World}{A:Around}{E:Value->Shared->Prop}{s:Shared}{st:SortSt}{a₀:Array Keyed}
theorem SrP.fr {lo k:Nat}{xs:Array Keyed}(h:SrP a₀ st lo k xs){n:Nat}(hs:SFr (arrOf st) 0 n)(hn:n<=lo):SFr xs 0 n:=λi j a1 a2 a3=>by
 rw[h.pre i (by omega),h.pre j (by omega)];exact hs i j a1 a2 a3
theorem wpS_runs64 {Q:Unit->SortSt->Prop}(h0:IntKeys a₀)(hnd:(a₀.toList.map λp=>numOf p.1).Nodup)(hB:SBase a₀ st)(hz:a₀.size=64)
  (q:∀st',(arrOf st').Perm a₀->failedOf st'=none->SortedTo (arrOf st') a₀.size->Q () st'):wpS (model prog w) A E s sortRuns' Q st:=by
 rw[sortRuns'_eq]
 refine wpS_bind (wpS_get ?_)
 dsimp only
 have hmr:minRun' 64 64 0=32:=by decide
 simp only[hB.size,hz,hmr]
 refine wpS_bind (wpS_mono (wpS_forRange
  (I:=λx c st'=>(x=0/\c=(none,0)/\SBase a₀ st')∨(∃n,c=(none,n)/\(x=1∨1<=x/\n=64)/\32<=n/\n<=64/\Rn1 a₀ n 0 st')∨(2<=x/\∃n pw,c=(none,64)/\32<=n/\n<64/\Rn2 a₀ n (64-n) pw 0 st'))
  (Q:=λc st'=>c=(none,64)/\(Rn1 a₀ 64 0 st'∨∃n pw,32<=n/\n<64/\Rn2 a₀ n (64-n) pw 0 st')) ?step ?fin (.inl ⟨rfl,rfl,hB⟩)) ?post)
 case fin=>
  rintro c st' (⟨hx,_⟩ | ⟨n,rfl,hx,h1,h2,R⟩ | ⟨_,n,pw,hc,h1,h2,R⟩)
  .omega
  .obtain rfl:n=64:=by omega
   exact⟨rfl,.inl R⟩
  .exact ⟨hc,.inr ⟨n,pw,h1,h2,R⟩⟩
 case step=>
  rintro x c st' _ hx (⟨rfl,rfl,hB'⟩ | ⟨n,rfl,hx1,h1,h2,R⟩ | ⟨hx1,n,pw,rfl,h1,h2,R⟩)
  .dsimp only
   rw[if_neg (by omega)]
   simp only[Nat.sub_zero,Nat.zero_add]
   refine wpS_bind (wpS_countRun h0 (by omega) (by omega) hB' λm st2 hB2 hm1 hm2 hs2=>?_)
   dsimp only
   have fin:∀(n:Nat) (st3:SortSt),32<=n->n<=64->SBase a₀ st3->SortedTo (arrOf st3) n->Rn1 a₀ n 0 (setPending st3 ((pendingOf st3).push (0,n,0))):=λn st3 _ _ hB3 hs3=>⟨hB3.perm,hB3.kind,hB3.failed,by show (pendingOf st3).push _=_;rw[hB3.pend];rfl,λi j _ b1 b2=>hs3 i j b1 b2⟩
   by_cases hlt:m<32
   .rw [if_pos hlt]
    refine wpS_bind (wpS_lift (wpAny_rule ⟨rfl,?_⟩))
    refine wpS_bind (wpS_binarySort h0 (by omega) (by omega) hB2 hs2 λst3 hB3 hs3=>?_)
    simp only[Bool.not_true,false_eq_true,if_false]
    refine wpS_bind (wpS_get ?_)
    rw[show (pendingOf st3).back?=none by rw[hB3.pend];rfl]
    dsimp only
    exact wpS_bind (wpS_modify (wpS_pure (.inr (.inl ⟨_,rfl,.inl (by first |trivial |rfl),by omega,by omega,fin _ st3 (by omega) (by omega) hB3 hs3⟩))))
   .rw [if_neg hlt]
    refine wpS_bind (wpS_get ?_)
    rw[show (pendingOf st2).back?=none by rw[hB2.pend];rfl]
    dsimp only
    exact wpS_bind (wpS_modify (wpS_pure (.inr (.inl ⟨m,rfl,.inl (by first |trivial |rfl),by omega,hm2,fin m st2 (by omega) hm2 hB2 hs2⟩))))
  .dsimp only
   by_cases hn:n>=64
   .rw [if_pos hn]
    obtain rfl:n=64:=by omega
    exact wpS_pure ⟨rfl,.inl R⟩
   rw[if_neg hn]
   obtain rfl:x=1:=by omega
   have hD:SD a₀ st':=⟨R.perm,R.kind,h0,hnd⟩
   refine wpS_bind (wpS_cr hD (by omega) (by omega) λm xs p1 p2 m1 m2 p3=>?_)
   dsimp only
   have hD1:SD a₀ (setArr st' xs):=hD.setA p1
   have s1:SFr xs 0 n:=λi j b1 b2 b3=>by rw[p2 i (by omega),p2 j (by omega)];exact R.s1 i j b1 b2 b3
   have fin:∀(st3:SortSt) (pw:Nat),(arrOf st3).Perm a₀->kindOf st3=oneType'->failedOf st3=none->pendingOf st3=#[(0,n,0)]->SFr (arrOf st3) 0 n->SFr (arrOf st3) n 64->
     Rn2 a₀ n (64-n) pw 0 (setPending (setPending st3 ((pendingOf st3).modify ((pendingOf st3).size-1) λ(z:Nat×Nat×Nat)=>(z.1,z.2.1,pw))) ((pendingOf (setPending st3 ((pendingOf st3).modify ((pendingOf st3).size-1) λ(z:Nat×Nat×Nat)=>(z.1,z.2.1,pw)))).push (n,64-n,0))):=λst3 pw c1 c2 c3 c4 c5 c6=>
    ⟨c1,c2,c3,by show ((pendingOf st3).modify ((pendingOf st3).size-1) _).push _=_;rw[c4];rfl,c5,by rw[show n+(64-n)=64 by omega];exact c6⟩
   by_cases hlt:m<32
   .rw [if_pos hlt]
    refine wpS_bind (wpS_lift (wpAny_rule ⟨rfl,?_⟩))
    rw[show min (64-n) 32=64-n by omega]
    refine wpS_bind (wpS_bs hD1 (by omega) m2 p3 λys hy=>?_)
    simp only[Bool.not_true,false_eq_true,if_false]
    refine wpS_bind (wpS_get ?_)
    rw[show (pendingOf (setArr (setArr st' xs) ys)).back?=some (0,n,0) by show (pendingOf st').back?=_;rw[R.pend];rfl]
    dsimp only
    refine wpS_bind (wpS_mono (wpS_forRange (I:=λ_ c st2=>st2=(setArr (setArr st' xs) ys)/\c=(none,())) (Q:=λc st2=>st2=(setArr (setArr st' xs) ys)/\c=(none,())) ?i1 (λ_ _ hh=>hh) ⟨rfl,rfl⟩) ?i2)
    case i1=>
     rintro x c st2 _ _ ⟨rfl,rfl⟩
     refine wpS_bind (wpS_get ?_)
     rw[if_neg (by show ¬ (pendingOf st').size > 1;rw[R.pend];simp)]
     exact wpS_pure ⟨rfl,rfl⟩
    case i2=>
     rintro c st2 ⟨rfl,rfl⟩
     dsimp only
     refine wpS_bind (wpS_modify (wpS_bind (wpS_modify (wpS_pure (.inr (.inr ⟨by omega,n,power' 64 (2*0+n) (2*0+n+n+(64-n)) 64,by rw[show n+(64-n)=64 by omega],h1,by omega,?_⟩))))))
     exact fin (setArr (setArr st' xs) ys) _ ((hy.perm.trans p1).trans R.perm) R.kind R.fail R.pend (hy.fr s1 (Nat.le_refl _)) (by have:=hy.srt;rw[show n+(64-n)=64 by omega]at this;exact this)
   .rw [if_neg hlt]
    obtain rfl:m=64-n:=by omega
    refine wpS_bind (wpS_get ?_)
    rw[show (pendingOf (setArr st' xs)).back?=some (0,n,0) by show (pendingOf st').back?=_;rw[R.pend];rfl]
    dsimp only
    refine wpS_bind (wpS_mono (wpS_forRange (I:=λ_ c st2=>st2=(setArr st' xs)/\c=(none,())) (Q:=λc st2=>st2=(setArr st' xs)/\c=(none,())) ?i1 (λ_ _ hh=>hh) ⟨rfl,rfl⟩) ?i2)
    case i1=>
     rintro x c st2 _ _ ⟨rfl,rfl⟩
     refine wpS_bind (wpS_get ?_)
     rw[if_neg (by show ¬ (pendingOf st').size > 1;rw[R.pend];simp)]
     exact wpS_pure ⟨rfl,rfl⟩
    case i2=>
     rintro c st2 ⟨rfl,rfl⟩
     dsimp only
     refine wpS_bind (wpS_modify (wpS_bind (wpS_modify (wpS_pure (.inr (.inr ⟨by omega,n,power' 64 (2*0+n) (2*0+n+n+(64-n)) 64,by rw[show n+(64-n)=64 by omega],h1,by omega,?_⟩))))))
     exact fin (setArr st' xs) _ (p1.trans R.perm) R.kind R.fail R.pend s1 (by rw[show n+(64-n)=64 by omega]at p3;exact p3)
  .dsimp only
   rw[if_pos (by omega)]
   exact wpS_pure ⟨rfl,.inr ⟨n,pw,h1,h2,R⟩⟩
 case post=>
  rintro c st' ⟨rfl,hR⟩
  dsimp only
  have done:∀(st2:SortSt) (pw:Nat),Rn1 a₀ 64 pw st2->Q () st2:=λst2 pw R=>q st2 R.perm R.fail λi j b1 b2=>R.s1 i j (by omega) b1 (by omega)
  refine wpS_bind (wpS_mono (wpS_forRange (I:=λx c st2=>c=(none,())/\((∃pw,Rn1 a₀ 64 pw st2)∨(x=0/\∃n pw,32<=n/\n<64/\Rn2 a₀ n (64-n) pw 0 st2))) (Q:=λc st2=>c=(none,())/\∃pw,Rn1 a₀ 64 pw st2) ?j1 ?j2 ⟨rfl,hR.elim (λz=>.inl ⟨_,z⟩) λz=>.inr ⟨rfl,z⟩⟩) ?j3)
  case j2=>
   rintro c st2 ⟨hc,z | ⟨z,_⟩⟩
   .exact ⟨hc,z⟩
   .omega
  case j3=>
   rintro c st2 ⟨rfl,pw,R⟩
   exact wpS_pure (done st2 pw R)
  case j1=>
   rintro x c st2 _ _ ⟨rfl,⟨pw,R⟩ | ⟨rfl,n,pw,h1,h2,R⟩⟩
   .refine wpS_bind (wpS_get ?_)
    rw[if_pos (by rw[R.pend];exact Nat.le_refl 1)]
    exact wpS_pure ⟨rfl,pw,R⟩
   .refine wpS_bind (wpS_get ?_)
    rw[if_neg (by rw[R.pend];simp)]
    have e:(pendingOf st2).size-2=0:=by rw[R.pend];rfl
    simp only[e,lt_irrefl,if_false,Option.any_none,false_eq_true,gt_iff_lt]
    refine wpS_bind (wpS_mAt h0 R (by omega) (by omega) (by omega) λst3 R3=>?_)
    simp only[Bool.not_true,false_eq_true,if_false]
    rw[show n+(64-n)=64 by omega]at R3
    exact wpS_pure ⟨rfl,.inl ⟨pw,R3⟩⟩
theorem sort_tree {a:Addr}{vs:List Value}{ns:List Int}{n:Nat}{P:Fin->Shared->Prop}(ho:s.heap.get? a=some (seqObj "list" vs.toArray n))(hI:IntsAre vs ns)(hnd:ns.Nodup)(h64:vs.length<=64)
  (h:∀(out:Array Value) (ns':List Int),IntsAre out.toList ns'->ns'.Perm ns->ns'.Pairwise (·<=·)->P (.done (.ret .none)) {s with heap:=sortedHeap s.heap a vs out}):wpAny (model prog w) A (Builtin.«list.sort» ⟨[.ref a],[]⟩) P E s:=by
 by_cases hlt:vs.length<64
 .exact list_sort_tree ho hI hlt h
 have h64:vs.length=64:=by omega
 rw[list_sort_plain]
 have ha:a<s.heap.objs.size:=lt_size ho
 refine wpAny_bind (listItems_at ho rfl (wpAny_bind (listUpdate_at ho rfl ?_ (hsz:=by rw[size_toArray,sizeLine_eq];omega))))
 obtain⟨e1,ho1⟩:∃e1,(s.heap.update a (Obj.mapSeq λ_=>#[])).get? a=some (seqObj "list" #[] e1):=⟨_,get?_update_seq ho (λ_=>#[])⟩
 refine wpAny_bind (seqEpoch_at ho1 rfl (wpAny_bind (wpAny_newTuple (wpAny_bind (wpAny_newList (wpAny_holding ?_))) (by rw[List.toList_toArray,sizeLine_eq];omega))))
 have ho6:(((s.heap.update a (Obj.mapSeq λ_=>#[])).push (seqObj "tuple" vs.toArray 0)).push (seqObj "list" #[] 0)).get? a=some (seqObj "list" #[] e1):=get?_push_of_some _ (get?_push_of_some _ ho1)
 show wpAny (model prog w) A _ P E {s with heap:=((s.heap.update a (Obj.mapSeq λ_=>#[])).push (seqObj "tuple" vs.toArray 0)).push (seqObj "list" #[] 0)}
 dsimp only
 have hsz:vs.toArray.size=64:=by rw[size_toArray];exact h64
 rw[if_neg (by omega),if_neg (by omega)]
 obtain⟨v₁,v₂,rest,rfl⟩:∃v₁ v₂ rest,vs=v₁::v₂::rest:=by
  match vs,h64 with
  |v₁::v₂::rest,_=>exact⟨v₁,v₂,rest,rfl⟩
 rw[keyKind_ints hI]
 refine wpAny_bind (wpAny_pure ?_)
 have hk:(List.map (λp:Keyed=>numOf p.1) (pairsOf (v₁::v₂::rest)).toList).Nodup:=by
  have e:List.map (λp:Keyed=>numOf p.1) (pairsOf (v₁::v₂::rest)).toList=ns:=by
   have e2:∀l:List Value,(l.zip l).map (λp:Keyed=>numOf p.1)=l.map numOf:=λl=>by
    have:(l.zip l).map (λp:Keyed=>numOf p.1)=((l.zip l).map Prod.fst).map numOf:=by rw[map_map];rfl
    rw[this,List.map_fst_zip (Nat.le_refl _)]
   rw[pairsOf_toList,e2,hI.nums]
  rw[e];exact hnd
 refine wpAny_bind (wpAny_mono (wpS_runs64 (a₀:=pairsOf (v₁::v₂::rest)) (st:=SortSt.mk' oneType' ((v₁::v₂::rest).toArray.zip (v₁::v₂::rest).toArray) #[] 7 none) (Q:=λ_ st'=>(arrOf st').Perm (pairsOf (v₁::v₂::rest))/\failedOf st'=none/\SortedTo (arrOf st') (pairsOf (v₁::v₂::rest)).size)
  hI.intKeys hk ⟨Array.Perm.refl _,rfl,rfl,rfl⟩ (by rw[pairsOf_size];exact h64) λst' a1 a2 a3=>⟨a1,a2,a3⟩) ?_ λ_ _ e=>e)
 rintro⟨⟨⟩,st'⟩ s' ⟨rfl,hp,hf,hs⟩
 dsimp only
 refine wpAny_bind (seqEpoch_at ho6 rfl (wpAny_bind (listUpdate_at ho6 rfl ?_ (hsz2:=Nat.le_trans (Nat.le_of_eq ((Array.size_map ..).trans (hp.size_eq.trans (pairsOf_size _)))) (by rw[h64,sizeLine_eq];omega)))))
 rw[hf]
 simp only[bne_self_eq_false,false_eq_true,if_false]
 obtain⟨ns',h1,h2,h3⟩:=sorted_out hI hp hs
 exact wpAny_pure (h _ ns' h1 h2 h3)
theorem sorted_set {a:Addr}{ms:List Int}{Q:Value->Shared->Prop}(hh:A.handled=none)(hS:SetX (ledOf w) a ms s.heap)(h64:ms.length<=64)
  (h:∀(l:Addr) (out:List Value) (e:Nat) (ns':List Int) (h':Heap) (tk:Nat) d,(∀b o,s.heap.get? b=some o->h'.get? b=some o)->s.heap.objs.size<=l->h'.get? l=some (seqObj "list" out.toArray e)->IntsAre out ns'->ns'.Perm ms->ns'.Pairwise (·<=·)->Q (.ref l) {s with heap:=h',toks:=tk,drawn:=d}):
  wpAny (model prog w) A (call (.builtin "sorted") [.ref a]) Q E s:=by
 have hnd:ms.Nodup:=by obtain⟨_,_,_,_,_,_,z,_⟩:=hS;exact z
 refine Calls.call_function_entry kind_sorted plain_sorted entry_sorted (args_sorted1 _) ?_
 unfold Builtin.«sorted»
 refine wpAny_bind (m:=checkCount "sorted" 1 1 _) (wpAny_pure ?_)
 refine wpAny_bind (collect_set (by simpa using hh) hS λvs ns h1 tk d k1 z1 hI hp=>?_)
 have hl:vs.length=ms.length:=(IntsAre.length hI).trans hp.length_eq
 refine wpAny_bind (wpAny_newList ?_ (by rw[hl,sizeLine_eq];omega))
 have hoL:(h1.push (seqObj "list" vs.toArray 0)).get? h1.objs.size=some (seqObj "list" vs.toArray 0):=get?_push_size _ rfl
 refine wpAny_bind (wpAny_holding (wpAny_call_entry (s:={s with heap:=h1.push (seqObj "list" vs.toArray 0),toks:=tk,drawn:=d}) slot_list_sort ⟨_,hoL,rfl⟩ entry_list_sort (sort_tree hoL hI (hp.nodup_iff.mpr hnd) (by omega) λout ns' a1 a2 a3=>⟨_,rfl,?_⟩) (args_list_sort _)))
 obtain⟨e,he⟩:=sortedHeap_at (h:=h1.push (seqObj "list" vs.toArray 0)) (out:=out) hoL
 refine wpAny_pure ⟨_,rfl,h h1.objs.size out.toList e ns' _ tk d (λb o eb=>?_) z1 (by rw[Array.toArray_toList];exact he) a1 (a2.trans hp) a3⟩
 have hb:=lt_size (k1 b o eb)
 rw[sortedHeap_old (ne_of_lt hb) (by rw[size_push];exact lt_succ_of_lt hb)]
 exact get?_push_of_some _ (k1 b o eb)
end
open PySem PySem.Spec PyProof.Rows
def dSortSet (E:DE):DO:=λM P=>E M λd=>match d with
 | .lst xs=>∃ns:List Int,xs=ns.map D.int/\ns.length<=4000/\(∀ms:List Int,ms.Nodup->(∀x,x∈ms↔x∈ns)->ms.length<=64)/\∀ms:List Int,ms.Nodup->(∀x,x∈ms↔x∈ns)->ms.Pairwise (·<=·)->P (.nl ((ms.map D.int).map .fz))
 |_=>False
section
variable {X:Cx}{K:Frag}
def rSetX (w:World)(K:Frag):List V->Hp->VK->Prop:=λxs H Q=>∃p,∃ns:List Int,xs=[.ref p]/\SqL K H p (ns.map V.int)/\ns.length<=4000/\∀(a:Addr) (H':Hp) (ms:List Int),H a=none->Same H H'->H' a=some (.ext (SetX (ledOf w) a ms))->ms.Nodup->(∀x,x∈ms↔x∈ns)->Q (.ref a) H'
theorem call_setOf (hc:X.calm=true):CallR X (.type "set") (rSetX X.w X.K):=by
 intro pins s O H xs us Q I r h
 obtain⟨p,ns,rfl,hq,hl,q⟩:=h
 obtain⟨u,rfl,ru⟩:=vals1 r
 cases ru
 obtain⟨its,rv,pl,hz⟩:=I.list hq
 have hi:IntsAre its ns:=intsAre_of rv
 have hil:=rv.length
 rw[length_map]at hil
 refine call_setX (I.ok.hd hc) pl.isList (by rw[List.toList_toArray];exact hi) (by rw[size_toArray];unfold scanBound;omega) λh' tk ms hS hlm hm hk=>?_
 have hn:H s.heap.objs.size=none:=I.hok.fresh (Nat.le_refl _)
 have hnd:ms.Nodup:=by obtain⟨_,_,_,_,_,_,z,_⟩:=hS;exact z
 have ho:∃o,h'.get? s.heap.objs.size=some o:=by obtain⟨_,_,_,z,_⟩:=hS;exact⟨_,z⟩
 have I':Inv X pins O (upd H s.heap.objs.size (.ext (SetX (ledOf X.w) s.heap.objs.size ms))) {s with heap:=h',toks:=tk}:=
  I.laid (λb o e=>hk b o (lt_size e) e) (Nat.le_refl _) ⟨hS,ho,λh1 h2 z k=>SetX.stay z k⟩
 exact⟨.ref _,_,I',rfl,q _ _ ms hn (Same.new hn) upd_same hnd hm⟩
def rSortS (w:World):List V->Hp->VK->Prop:=λxs H Q=>∃p,∃ms:List Int,xs=[.ref p]/\H p=some (.ext (SetX (ledOf w) p ms))/\ms.length<=64/\∀(l:Addr) (H':Hp) (ns:List Int),H l=none->Same H H'->H' l=some (.lst (ns.map V.int))->ns.Perm ms->ns.Pairwise (·<=·)->Q (.ref l) H'
theorem call_sortS (hc:X.calm=true):CallR X (.builtin "sorted") (rSortS X.w):=by
 intro pins s O H xs us Q I r h
 obtain⟨p,ms,rfl,hq,hl,q⟩:=h
 obtain⟨u,rfl,ru⟩:=vals1 r
 cases ru
 obtain⟨hS,_,_⟩:=I.hok p _ hq
 refine sorted_set (I.ok.hd hc) hS hl λl out e ns h' tk d hk hl' ho hi hp hw=>?_
 have hn:H l=none:=I.hok.fresh hl'
 have hlen:=hp.length_eq
 have I1:Inv X pins O (upd H l (.lst (ns.map V.int))) {s with heap:=h',toks:=tk}:=
  I.laid hk hl' ⟨Nat.le_trans (by rw[length_map];omega:(ns.map V.int).length<=64) (sz_le (by decide)),out,e,vals_of_ints hi,ho⟩
 have I2:Inv X pins O (upd H l (.lst (ns.map V.int))) {s with heap:=h',toks:=tk,drawn:=d}:=⟨I1.ok,I1.os,I1.bare,I1.base,I1.loc,I1.cell,I1.free,I1.freeC,I1.pin,I1.hok,I1.len⟩
 exact⟨.ref _,_,I2,rfl,q _ _ ns hn (Same.new hn) upd_same hp hw⟩
theorem sO_sortSet {w:World}{te:TE}{E:DE}(h:SimB K te E):SimO K (tCB (rSortS w) (tCons (tCB (rSetX w K) (tCons te tNil)) tNil)) (dSortSet E):=λF0 H0 F H O M P Q e w' q=>h F0 H0 F H O M _ _ e w' λd v F1 H1 p x1 r1=>by
 try dsimp only at p
 split at p
 .obtain ⟨ns,rfl,hl,h64,p⟩:=p
  obtain⟨a,us,rfl,h1,h2⟩:=r1
  have e:=reps_ints.mp h2
  subst e
  refine⟨a,ns,rfl,h1,hl,λb H' ms b0 sm hb nd mem=>⟨b,ms,rfl,hb,h64 ms nd mem,λl H'' ns' l0 sm' hl' pm pw=>?_⟩⟩
  have g0:H1 l=none:=sm.free l0
  exact q _ _ F1 H'' (p ns' (pm.nodup_iff.mpr nd) (λx=>pm.mem_iff.trans (mem x)) pw) (x1.trans (Ext.grow x1.fh (sm.trans sm'))) (RepN.list (x1.hh.free g0) (x1.fh.free g0) hl' (reps_ints.mpr rfl))
 .exact p.elim
end
section
variable {κ:Type}[DecidableEq κ]
theorem RelO.getD {o:Option V}{u:Option Value}{d:V}{d':Value}(r:RelO o u)(rd:RelV d d'):RelV (o.getD d) (u.getD d'):=by
 cases o with
 |none=>cases u with
  |none=>exact rd
  |some _=>exact (show False from r).elim
 |some _=>cases u with
  |none=>exact (show False from r).elim
  |some _=>exact r
theorem KV.length {kvs:List (κ×V)}{vs:List (κ×Value)}(r:KV kvs vs):kvs.length=vs.length:=Paired.length r
end
theorem kV_is {P:Program}{w:World}{k:Key}{u:Value}(r:RelV (kV k) u):(mixKind P w).is k u=true:=by
 cases k with
 |inl i=>obtain⟨t,e⟩:=(show ∃t,u=Value.int i t from r);subst e;exact mixKind_int P w i t
 |inr x=>obtain⟨t,e⟩:=(show ∃t,u=Value.str x t from r);subst e;exact mixKind_str P w x t
theorem items_are {P:Program}{w:World}:∀{ks:List Key} {us:List Value},Vals (ks.map kV) us->ItemsAre (mixKind P w) ks us
 | [],_,r=>by rw[map_nil]at r;cases r;exact .nil
 |k::ks,_,r=>by
  rw[map_cons]at r
  cases r with
  |cons h t=>exact .cons (kV_is h) (items_are t)
abbrev KT (H:Hp):List (List Key×V)->List (List Key×Addr×Value)->Prop:=Paired λp q=>p.1=q.1/\H q.2.1=some (.tup (p.1.map kV))/\RelV p.2 q.2.2
section
variable {P:Program}{w:World}{H:Hp}{h:Heap}{a:Addr}
end
section
variable {X:Cx}{pins:List (Addr×Obj)}{O:St}{H:Hp}{s:Shared}{a:Addr}{y v:V}{u r:Value}{o:Option V}{A:Around}{E:Value->Shared->Prop}
theorem Inv.big (I:Inv X pins O H s):sysModules<s.heap.objs.size:=by
 have h:mainGlobals<s.heap.objs.size:=(I.mod.glob.keeps I.bk).lt
 exact lt_trans (by decide) h
theorem d_write {h':Heap}{t':Nat}{ob:HO}(I:Inv X pins O H s)(mu:Mut (H a))(hs:Heap.SameBut a s.heap h')(he:∃q,h'.get? a=some q)(new:ObjOk X.prog X.w (upd H a ob) h' a ob):
  Inv X pins O (upd H a ob) {s with heap:=h',toks:=t'}:=
 I.write (x:=a) (e:=a) mu (.inl rfl) (λb q hb z=>(hs.2 b hb).trans z) he new
end
section
variable {X:Cx}{o i e value:Expr}{pos pos' tpos:Pos}{td ty tv:TE}
end
section
variable {X:Cx}{pos:Pos}
end
open PySem PySem.Spec PyProof.Rows PyProof.V PySem.W
section
variable {prog:Program}{w:World}{A:Around}{E:Value->Shared->Prop}{s:Shared}{d:Addr}{kvs:List (Key×Value)}{ep:Nat}
end
section
variable {X:Cx}
end
def dListR2 (As:DA):DO:=λM P=>As M λds=>match ds with
 | [.int i,.int j]=>(-(2^61)<=i/\i<2^61/\-(2^61)<=j/\j<2^61)/\rngN i j 1<=1000000/\P (.nl ((List.range (rngN i j 1)).map λ(k:Nat)=>OV.fz (.int (i+k*1))))
 |_=>False
def tListR2 (ta:TA):TE:=λO H Q=>ta O H λvs H1=>∃i j:Int,vs=[.int i,.int j]/\(-(2^61)<=i/\i<2^61/\-(2^61)<=j/\j<2^61)/\rngN i j 1<=1000000/\∀p H',H1 p=none->Same H1 H'->H' p=some (.lst ((List.range (rngN i j 1)).map λ(k:Nat)=>V.int (i+k*1)))->Q (.ref p) H'
section
variable {X:Cx}{K:Frag}
theorem pe_listR2 {a b:Expr}{ta:TA}{p p' pos pos':Pos}(hg:Gl X "list")(hm:X.mg "list"=none)(hc:X.calm=true)(hm':X.mg "range"=none)(ha:PA X [a,b] ta)(hg':Gl X "range":=by rfl)
  (hs:starEach [a,b] X.env=(false,eval a X.env)::starEach [b] X.env:=by rfl) (hpl:(backTo pos' (starEach [b] X.env)).any (·.1)=false:=by rfl)
  (hs2:starEach [Expr.Call (.Name "range" p') [a,b] [] pos'] X.env=[(false,eval (Expr.Call (.Name "range" p') [a,b] [] pos') X.env)]:=by rfl):
  PE X (.Call (.Name "list" p) [.Call (.Name "range" p') [a,b] [] pos'] [] pos) (tListR2 ta):=by
 intro pins s O H Q I h
 refine Call_ (ld_blt I hg hm PyProof.Rows.boot_list (PyProof.Rows.callWith_type1 ?_ hs2 rfl))
 refine Calls.spliced_cons ?_
 refine Call_ (ld_blt I hg' hm' boot_range (PyProof.Rows.callWith_type1 (thn (ha pos' pins s O H _ I h) λus s1 ⟨vs,H1,I1,r1,q1⟩=>?_) hs hpl))
 obtain⟨i,j,e,⟨q1,q2,q3,q4⟩,hsz,q⟩:=q1
 subst e
 cases r1 with
 |cons r rr=>
  cases rr with
  |cons r' rr=>
   cases rr
   obtain⟨t,rfl⟩:=r
   obtain⟨t',rfl⟩:=r'
   refine call_range_2 ?_
   refine Calls.spliced_nil ?_
   have I2:Inv X pins O H1 {s1 with heap:=s1.heap.push {cls:=.type "range",data:=.fields #[.int i t,.int j t',.int 1 s1.toks]},toks:=s1.toks+1}:=I1.kept λb o e=>get?_push_of_some _ e
   have hn:Builtin.Range.rangeSize i j 1=((rngN i j 1:Nat):Int):=by
    have z:0<=Builtin.Range.rangeSize i j 1:=by
     unfold Builtin.Range.rangeSize
     rw[if_pos (by decide)]
     split
     .have e2:0<=(j-i-1) / 1:=ediv_nonneg (by lia) (by lia)
      omega
     .lia
    unfold rngN;lia
   refine PySem.call_list_range (I.ok.hd hc) (IsRange.new ..) (small_step q1 q2 q3 q4 (by decide) (by decide)) hn (by lia) λh' tk acc c' hk ho hit=>?_
   have hf:=I2.hok.fresh (Nat.le_refl _)
   refine⟨.ref _,_,I2.laid (t':=tk) (o:=.lst ((List.range (rngN i j 1)).map λ(k:Nat)=>V.int (i+k*1))) hk (Nat.le_refl _) ⟨?_,acc.toList,c',vals_of_items hit,?_⟩,rfl,q _ _ hf (Same.new hf) upd_same⟩
   .rw [length_map,length_range];exact sz_le hsz
   .simpa using ho
theorem sO_listR2 {a:TA}{As:DA}(h:SimAB K a As):SimO K (tListR2 a) (dListR2 As):=λF0 H0 F H O M P Q e w q=>h F0 H0 F H O M _ _ e w λds vs F1 H1 w1 x1 r1=>by
 split at w1
 .rename_i i j
  obtain⟨v,u,rfl,e1,e2⟩:=reps2 r1
  obtain⟨p1,p2,p3⟩:=w1
  refine⟨i,j,by rw[show v=_ from e1,show u=_ from e2],p1,p2,λl H' l0 sm l1=>?_⟩
  have hr:Reps K F1 (((List.range (rngN i j 1)).map λ(k:Nat)=>i+(k:Int)*1).map D.int) (((List.range (rngN i j 1)).map λ(k:Nat)=>i+(k:Int)*1).map V.int):=reps_ints.mpr rfl
  have n1:=RepN.list (H':=H') (x1.hh.free l0) (x1.fh.free l0) (by rw[map_map];exact l1) hr
  rw[map_map,map_map]at n1
  exact q _ _ F1 H' p3 (x1.trans (Ext.grow x1.fh sm)) n1
 .exact w1.elim
end
namespace F2
theorem lk_list_keys:typeLookup (.type "list") "keys"=pure none:=by rw[typeLookup_type,builtinLookup_eq_fast];kernel_rfl
theorem lk_list_getattr:typeLookup (.type "list") "__getattr__"=pure none:=by rw[typeLookup_type,builtinLookup_eq_fast];kernel_rfl
theorem sub_attr_attr:isSubtype (.type "AttributeError") (.type "AttributeError")=pure true:=by rw[isSubtype_type];kernel_rfl
end F2
section
variable {prog:Program}{w:World}{A:Around}{E:Value->Shared->Prop}{h:Heap}{g:Array GenState}{d:Drawn}{t:Nat}{os:OsState}{a:Addr}{xs:Array Value}{c:Nat}
theorem note_raise {α:Type}{nv t0:Value}{ov:Value}{e:Addr}{Q:α->Shared->Prop}(hh:A.handled=none)(he:h.get? e=some {cls:=.type "AttributeError",data:=.fields #[t0,.none,.none,.none,.bool false,.none,unsetMember,unsetMember]})
  (k:∀h',h'=h.update e (Obj.mapFields λvs=>vs.extract 0 6++#[nv,ov])->E (.ref e) ⟨h',g,d,t,os⟩):
  wpAny (model prog w) A (do noteAttr (.ref e) ov nv;raiseNew (.ref e):Sem α) Q E ⟨h,g,d,t,os⟩:=by
 have hs:=F2.sub_attr_attr
 have hT:(⟨h,g,d,t,os⟩:Shared).TypeIs (.ref e) "AttributeError":=⟨_,he,rfl⟩
 repeat (any_goals (first |assumption |wp_step))
 exact wpAny_raiseNew_none hh (k _ rfl)
theorem raise_attr {α:Type}{nm msg:Str}{ov:Value}{Q:α->Shared->Prop}(hh:A.handled=none)(hm:msg.length<=sizeLine)(k:∀h' tk e o',(∀b o,h.get? b=some o->h'.get? b=some o)->h.objs.size<=h'.objs.size->h'.get? e=some o'->o'.cls = .type "AttributeError"->E (.ref e) ⟨h',g,d,tk,os⟩):
  wpAny (model prog w) A (raiseAttrError ov nm msg:Sem α) Q E ⟨h,g,d,t,os⟩:=by
 unfold raiseAttrError
 refine wpAny_bind (wpAny_mkStr' ?_ hm)
 refine wpAny_bind ?_
 unfold newExc newTuple
 refine wpAny_bind (wpAny_newObj_type ?_ (show 1<=sizeLine by rw[sizeLine_eq];decide))
 refine wpAny_bind (m:=firstArgMember _ _) (wpAny_of_eq (a:=Value.none) (by rfl) ?_)
 refine wpAny_newObj_type ?_ (by size_fits)
 refine wpAny_bind ?_
 unfold mkText
 refine wpAny_bind (wpAny_fresh' (wpAny_pure ?_))
 refine note_raise hh (get?_push_size _ rfl) λh' e=>?_
 subst e
 refine k _ _ _ _ (λb o e=>?_) ?_ (get?_update_self _ (get?_push_size _ rfl) rfl) rfl
 .have:=lt_size e
  refine Heap.get?_update_of_ne _ ?_ (get?_push_of_some _ (get?_push_of_some _ e))
  dsimp only
  rw[size_push]
  exact ne_of_gt (lt_succ_of_lt this)
 .rw [Heap.size_after_update,size_push,size_push];show h.objs.size<=h.objs.size+1+1;omega
theorem keys_entry_list {tk:Tok}{Q:Fin->Shared->Prop}(hh:A.handled=none)(hx:h.get? a=some (seqObj "list" xs c))(k:∀h' tk e o',(∀b o,h.get? b=some o->h'.get? b=some o)->h.objs.size<=h'.objs.size->h'.get? e=some o'->o'.cls = .type "AttributeError"->E (.ref e) ⟨h',g,d,tk,os⟩):
  wpAny (model prog w) A (Builtin.«object.__getattribute__» ⟨[.ref a,.str "keys" tk],[]⟩) Q E ⟨h,g,d,t,os⟩:=by
 have hT:(⟨h,g,d,t,os⟩:Shared).TypeIs (.ref a) "list":=⟨_,hx,rfl⟩
 have f4:=F2.lk_list_keys
 repeat (any_goals (first |assumption |wp_step))
 refine raise_attr hh ?_ k
 decide +kernel
theorem keys_call_list {tk:Tok}{R:Result->Shared->Prop}(hh:A.handled=none)(hx:h.get? a=some (seqObj "list" xs c))(k:∀h' tk e o',(∀b o,h.get? b=some o->h'.get? b=some o)->h.objs.size<=h'.objs.size->h'.get? e=some o'->o'.cls = .type "AttributeError"->R (.error (.ref e)) ⟨h',g,d,tk,os⟩):
  codeAny (model prog w) A (.call (.builtin "list.__getattribute__") ⟨[.ref a,.str "keys" tk],[]⟩) R ⟨h,g,d,t,os⟩:=
 codeAny_call_builtin slot_list_getattribute.plain PySem.F.entry_list_ga (slot_list_getattribute.check _ _ _ _ _ _ _ _ (show (⟨h,g,d,t,os⟩:Shared).TypeIs (.ref a) "list" from⟨_,hx,rfl⟩) (PySem.F.args_list_getattribute_2 _ _) (keys_entry_list (by simpa using hh) hx k))
theorem keys_by_list {tk:Tok}{Q:Value->Shared->Prop}(hh:A.handled=none)(hx:h.get? a=some (seqObj "list" xs c))(k:∀h' tk e o',(∀b o,h.get? b=some o->h'.get? b=some o)->h.objs.size<=h'.objs.size->h'.get? e=some o'->o'.cls = .type "AttributeError"->E (.ref e) ⟨h',g,d,tk,os⟩):wpAny (model prog w) A (getAttrBy (.ref a) (.str "keys" tk) false) Q E ⟨h,g,d,t,os⟩:=by
 have hT:(⟨h,g,d,t,os⟩:Shared).TypeIs (.ref a) "list":=⟨_,hx,rfl⟩
 have f2:=slot_list_getattribute.lookup
 have f3:=slot_list_getattribute.bind (.ref a)
 have f4:=F2.lk_list_getattr
 have hs:=F2.sub_attr_attr
 repeat (any_goals (first |assumption |wp_step))
 refine keys_call_list hh hx λh' tk e o' k1 k2 k3 k4=>?_
 have hT:(⟨h',g,d,tk,os⟩:Shared).TypeIs (.ref e) "AttributeError":=⟨_,k3,k4⟩
 repeat (any_goals (first |assumption |wp_step))
 exact k h' tk e o' k1 k2 k3 k4
theorem keys_attr_list {Q:Option Value->Shared->Prop}(hh:A.handled=none)(hx:h.get? a=some (seqObj "list" xs c))(hq:∀h' tk,(∀b o,h.get? b=some o->h'.get? b=some o)->h.objs.size<=h'.objs.size->Q none ⟨h',g,d,tk,os⟩):wpAny (model prog w) A (getAttr? (.ref a) "keys") Q E ⟨h,g,d,t,os⟩:=by
 unfold getAttr? getAttrBy?
 have hs:=F2.sub_attr_attr
 refine wpAny_bind ?_
 unfold mkText
 refine wpAny_bind (wpAny_fresh' (wpAny_pure ?_))
 refine wpAny_bind (wpAny_attempt (keys_by_list hh hx λh' tk e o' k1 k2 k3 k4=>?_))
 have hT:(⟨h',g,d,tk,os⟩:Shared).TypeIs (.ref e) "AttributeError":=⟨_,k3,k4⟩
 repeat (any_goals (first |assumption |wp_step))
 exact hq h' tk k1 k2
theorem entry_dict_loop:entryFor table "dict.update.loop"=some Builtin.«dict.update.loop»:=entryFor_of_tree (by kernel_rfl)
def PairAt (prog:Program)(w:World)(h:Heap)(v:Value)(q:List Key×Addr×Value):Prop:=∃b,v = .ref b/\IsTup h b #[.ref q.2.1,q.2.2]/\(tupleKind (mixKind prog w)).is h q.1 q.2.1
def puts (xs:List (List Key×Addr×Value)):List (List Key×Addr×Value)->List (List Key×Addr×Value)
 | []=>xs
 |q::qs=>puts (storedH xs q.1 q.2.1 q.2.2) qs
def DictOb (prog:Program)(w:World)(dd:Addr)(xs:List (List Key×Addr×Value))(h:Heap):Prop:=
 ∃o es ep,h.get? dd=some o/\o.ExactDict/\o.data = .dict es ep/\es.toList=xs.map (entryOfKey (tupleKind (mixKind prog w)))/\(xs.map (·.1)).Nodup
theorem DictOb.full {xs:List (List Key×Addr×Value)}{dd:Addr}(x:DictOb prog w dd xs h)(k:∀q∈xs,(tupleKind (mixKind prog w)).is h q.1 q.2.1):h.DictOfH (tupleKind (mixKind prog w)) dd xs:=
 let⟨o,es,ep,h1,h2,h3,h4,h5⟩:=x;⟨o,es,ep,h1,h2,h3,h4,k,h5⟩
theorem DictOb.of {xs:List (List Key×Addr×Value)}{dd:Addr}(x:h.DictOfH (tupleKind (mixKind prog w)) dd xs):DictOb prog w dd xs h:=
 let⟨o,es,ep,h1,h2,h3,h4,_,h5⟩:=x;⟨o,es,ep,h1,h2,h3,h4,h5⟩
theorem key_keeps {h':Heap}{ks:List Key}{c:Addr}(k:∀b o,h.get? b=some o->h'.get? b=some o)(x:(tupleKind (mixKind prog w)).is h ks c):(tupleKind (mixKind prog w)).is h' ks c:=
 let⟨o,its,n,h1,h2⟩:=x;⟨o,its,n,k _ _ h1,h2⟩
theorem storedH_mem {xs:List (List Key×Addr×Value)}{k:List Key}{a:Addr}{v:Value}{x:List Key×Addr×Value}(hx:x∈storedH xs k a v):(x.1=k/\x.2.1=a)∨∃y∈xs,x.1=y.1/\x.2.1=y.2.1:=by
 unfold storedH at hx
 split at hx
 .obtain ⟨y,hy,rfl⟩:=mem_map.mp hx
  refine .inr ⟨y,hy,?_⟩
  unfold putAt
  split<;>exact⟨rfl,rfl⟩
 .rcases mem_append.mp hx with hx |hx
  .exact .inr ⟨x,hx,rfl,rfl⟩
  .have:=mem_singleton.mp hx
   subst this
   exact .inl ⟨rfl,rfl⟩
theorem storedH_len {xs:List (List Key×Addr×Value)}{k:List Key}{a:Addr}{v:Value}:(storedH xs k a v).length<=xs.length+1:=by
 unfold storedH;split
 .rw [length_map];omega
 .rw [length_append];exact Nat.le_refl _
theorem dict_loop {l it dd:Addr}{h0:Heap}{items:Array Value}{R:Result->Shared->Prop}(hu:A.units+1<cLine)(hh:A.handled=none)(hl:h0.IsList l items)(hz:items.size<=100000)
  (hdn:∀b o,h0.get? b=some o->b≠dd/\b≠it) (hdi:dd≠it):
  ∀(qs:List (List Key×Addr×Value)) (i:Nat) (s:Shared) (xs:List (List Key×Addr×Value)) (tk:Tok),i+qs.length=items.size->xs.length<=i->(∀q∈xs,(tupleKind (mixKind prog w)).is h0 q.1 q.2.1)->(∀j q,qs[j]?=some q->∃v,items[i+j]?=some v/\PairAt prog w h0 v q)->
   (∀b o,h0.get? b=some o->s.heap.get? b=some o)->s.heap.IsListIter it l i->DictOb prog w dd xs s.heap->
   (∀h' tk',(∀b o,h0.get? b=some o->h'.get? b=some o)->DictOb prog w dd (puts xs qs) h'->R (.ok (.ret .none)) {s with heap:=h',toks:=tk'})->
   codeAny (model prog w) A (.builtin "dict.update.loop" ⟨[.ref dd,.ref it,.int i tk,.none],[]⟩) R s:=by
 intro qs
 induction qs with
 |nil=>
  intro i s xs tk hi hx _ _ hk hit hd hR
  refine codeAny_builtin entry_dict_loop ?_
  unfold Builtin.«dict.update.loop»
  obtain⟨ol,l1,l2,nl,l3⟩:=hl
  refine wpAny_bind (wpAny_pyNext_list_end (A:=A.in1) (by simpa using hh) hit ⟨ol,hk _ _ l1,l2,nl,l3⟩ (by rw[Array.getElem?_eq_none];simp at hi;omega) λh' hs=>?_)
  obtain⟨o,es,ep,d1,d2⟩:=hd
  exact wpAny_bind (wpAny_pure (wpAny_pure (hR h' _ (λb o e=>hs b o (hdn b o e).2 (hk b o e)) ⟨o,es,ep,hs _ _ hdi d1,d2⟩)))
 |cons q qs ih=>
  intro i s xs tk hi hx hxk hq hk hit hd hR
  obtain⟨v,hv,b,rfl,⟨ob,b1,b2,nb,b3⟩,hc⟩:=hq 0 q rfl
  refine codeAny_builtin entry_dict_loop ?_
  unfold Builtin.«dict.update.loop»
  obtain⟨ol,l1,l2,nl,l3⟩:=id hl
  refine wpAny_bind (wpAny_pyNext_list_item hit ⟨ol,hk _ _ l1,l2,nl,l3⟩ hv λh1 hit1 hs1=>?_)
  have hk1:∀b o,h0.get? b=some o->h1.get? b=some o:=λb o e=>(hs1.2 b (hdn b o e).2).trans (hk b o e)
  have hd1:DictOb prog w dd xs h1:=by
   obtain⟨o,es,ep,d1,d2⟩:=hd
   exact⟨o,es,ep,(hs1.2 dd hdi).trans d1,d2⟩
  dsimp only
  refine wpAny_bind (wpAny_holding ?_)
  have hT:({s with heap:=h1}:Shared).TypeIs (.ref b) "tuple":=⟨_,hk1 _ _ b1,b2⟩
  refine wpAny_bind (wpAny_tryCatch ?_)
  unfold Builtin.Dict.pairItems
  refine wpAny_bind (wpAny_typeOf hT ?_)
  rw[if_pos (by decide)]
  refine wpAny_bind (wpAny_seqItems (hk1 _ _ b1) b3 (wpAny_pure ?_))
  dsimp only[Option.getD_some]
  refine wpAny_holding ?_
  refine wpAny_dictSet_heap (knd:=tupleKind (mixKind prog w)) (s:={s with heap:=h1}) (show (A.in1).units<cLine by simpa using hu) (key_keeps hk1 hc) (hd1.full λx hx=>key_keeps hk1 (hxk x hx)) (λh2 hd2 hs2=>?_) (Nat.le_trans hx (by have h1:i<=100000:=by {simp at hi;omega};exact Nat.le_trans h1 (by rw[sizeLine_eq];decide)))
  refine wpAny_pure ⟨Code.quiet_builtin _ (by decide +kernel),?_⟩
  have hk2:∀b o,h0.get? b=some o->h2.get? b=some o:=λb o e=>(hs2.2 b (hdn b o e).1).trans (hk1 b o e)
  refine ih (i+1) _ (storedH xs q.1 q.2.1 q.2.2) 0 (by simp at hi;omega) (by have:=@storedH_len xs q.1 q.2.1 q.2.2;omega) (λx hx'=>?_) (λj q' e=>?_) hk2 ?_ (DictOb.of hd2) λh' tk' k1 k2=>hR h' tk' k1 k2
  .rcases storedH_mem hx' with⟨z1,z2⟩ | ⟨y,y1,y2,y3⟩
   .rw [z1,z2];exact hc
   .rw [y2,y3];exact hxk y y1
  .have:=hq (j+1) q' (by simpa using e)
   rw[show i+1+j=i+(j+1) by omega];exact this
  .obtain ⟨o,i1,i2⟩:=hit1
   exact⟨o,(hs2.2 it (Ne.symm hdi)).trans i1,i2⟩
theorem dict_of_pairs {l:Addr}{items:Array Value}{c:Nat}{qs:List (List Key×Addr×Value)}{Q:Value->Shared->Prop}(hu:A.units+4<cLine)(hh:A.handled=none)(hl:h.get? l=some (seqObj "list" items c))(hz:items.size<=100000)
  (hq:qs.length=items.size) (hp:∀(j:Nat) q,qs[j]?=some q->∃v,items[j]?=some v/\PairAt prog w h v q)
  (k:∀h' tk',(∀b o,h.get? b=some o->h'.get? b=some o)->DictOb prog w h.objs.size (puts [] qs) h'->Q (.ref h.objs.size) ⟨h',g,d,tk',os⟩):
  wpAny (model prog w) A (call (.type "dict") [.ref l]) Q E ⟨h,g,d,t,os⟩:=by
 refine callType_codes (Q₁:=λobj s₁=>obj = .ref h.objs.size/\s₁=⟨h.push {cls:=.type "dict",data:=.dict #[]},g,d,t,os⟩) PySem.F.kt_called_dict (PySem.F.kt_typeCall_dict_1 _) PySem.F.entry_dict_init (kt_code_dict_new _ ⟨rfl,rfl⟩) ?_
 rintro obj s₁ ⟨rfl,rfl⟩
 have hn:(h.push {cls:=.type "dict",data:=.dict #[]}).get? h.objs.size=some {cls:=.type "dict",data:=.dict #[]}:=get?_push_size _ rfl
 have hl1:=get?_push_of_some {cls:=.type "dict",data:=.dict #[]} hl
 refine⟨⟨_,hn,rfl⟩,PySem.F.args_dict_init_2 _ _,?_⟩
 unfold Builtin.«dict.__init__»
 refine wpAny_bind ?_
 unfold Builtin.Dict.selfAndRest
 refine wpAny_bind (wpAny_notOrdered_dict ⟨_,hn,rfl⟩ ?_)
 show wpAny _ _ (pure (h.objs.size,[Value.ref l])) _ _ _
 refine wpAny_pure ?_
 show wpAny _ _ (Builtin.Dict.updateFrom "dict.__init__" h.objs.size (.ref l) [] .none) _ _ _
 unfold Builtin.Dict.updateFrom
 refine wpAny_bind (wpAny_typeOf (T := "list") ⟨_,hl1,rfl⟩ ?_)
 rw[if_pos (by decide)]
 refine wpAny_bind (keys_attr_list (A:=A.in1.in1) (by simpa using hh) hl1 λh2 tk2 k2 z2=>?_)
 rw[if_pos (show (none:Option Value).isNone=true from rfl)]
 refine wpAny_bind (wpAny_rule ?_)
 refine wpAny_bind (wpAny_pyIter_list (s:=⟨h2,g,d,tk2,os⟩) ⟨_,k2 _ _ hl1,rfl,_,rfl⟩ ?_)
 refine wpAny_pure ⟨Code.quiet_builtin _ (by decide +kernel),?_⟩
 rw[size_push]at z2
 have hne:h.objs.size≠h2.objs.size:=ne_of_lt z2
 refine dict_loop (A:=A.in1) (h0:=h) (l:=l) (items:=items) (dd:=h.objs.size) (it:=h2.objs.size) (by simp;omega) (by simpa using hh) ⟨_,hl,rfl,_,rfl⟩ hz (λb o e=>⟨ne_of_lt (lt_size e),ne_of_lt (lt_trans (lt_size e) z2)⟩) hne qs 0 _ [] 0 (by omega) (Nat.le_refl _) (λ_ z=>by cases z) (λj q e=>by rw[Nat.zero_add];exact hp j q e) (λb o e=>get?_push_of_some _ (k2 _ _ (get?_push_of_some _ e))) ⟨_,get?_push_size _ rfl,rfl,rfl⟩ ⟨_,_,0,get?_push_of_some _ (k2 _ _ hn),?_,rfl,rfl,nodup_nil⟩ λh' tk' k1 k3=>⟨rfl,k h' tk' k1 k3⟩
 exact⟨rfl,rfl,rfl⟩
end
section
variable {X:Cx}
def DictS (P:Program)(w:World)(a:Addr)(ys:List (List Key×Addr×Value)):Heap->Prop:=λh=>(a==sysModules)=false/\DictOb P w a ys h
theorem puts_key:∀{qs xs:List (List Key×Addr×Value)} {x:List Key×Addr×Value},x∈puts xs qs->∃y,(y∈xs∨y∈qs)/\x.1=y.1/\x.2.1=y.2.1
 | [],_,x,h=>⟨x,.inl h,rfl,rfl⟩
 |q :: qs,xs,x,h=>by
  obtain⟨y,hy,e1,e2⟩:=puts_key (qs:=qs) (xs:=storedH xs q.1 q.2.1 q.2.2) h
  rcases hy with hy |hy
  .rcases storedH_mem hy with⟨z1,z2⟩ | ⟨z,z1,z2,z3⟩
   .exact ⟨q,.inr mem_cons_self,e1.trans z1,e2.trans z2⟩
   .exact ⟨z,.inl z1,e1.trans z2,e2.trans z3⟩
  .exact ⟨y,.inr (mem_cons_of_mem _ hy),e1,e2⟩
theorem atKey_stored {xs:List (List Key×Addr×Value)}{k k':List Key}{a:Addr}{v:Value}:(atKey (storedH xs k a v) k').isSome=(decide (k'=k) || (atKey xs k').isSome):=by
 have e:∀(ys:List (List Key×Addr×Value)) k,(atKey ys k).isSome=ys.any λy=>decide (y.1=k):=λys k=>by
  unfold atKey
  rw[Option.isSome_map,Bool.eq_iff_iff,List.find?_isSome];simp
 rw[e,e]
 unfold storedH
 rw[e]
 split
 .rename_i h
  rw[any_map]
  have e2:((λy=>decide (y.1=k'))∘putAt k v)=λy:List Key×Addr×Value=>decide (y.1=k'):=by
   funext y
   show decide ((putAt k v y).1=k')=_
   unfold putAt;split<;>rfl
  rw[e2]
  by_cases z:k'=k
  .subst z;rw[h];simp
  .simp [z]
 .rw [List.any_append,any_cons,List.any_nil,Bool.or_false,Bool.or_comm]
  congr 1
  exact decide_eq_decide.mpr ⟨Eq.symm,Eq.symm⟩
theorem atKey_puts {k:List Key}:∀{qs xs:List (List Key×Addr×Value)},(atKey (puts xs qs) k).isSome=((atKey xs k).isSome ||qs.any λq=>decide (k=q.1))
 | [],xs=>by simp[puts]
 |q::qs,xs=>by
  show (atKey (puts (storedH xs q.1 q.2.1 q.2.2) qs) k).isSome=_
  rw[atKey_puts,atKey_stored,any_cons]
  cases (atKey xs k).isSome<;>cases decide (k=q.1)<;>simp
def rDictT (P:Program)(w:World)(K:Frag):List V->Hp->VK->Prop:=λxs H Q=>∃(p:Addr) (bs:List Addr) (cs:List (List Key×Addr)),xs=[.ref p]/\H p=some (.lst (bs.map V.ref))/\bs.length=cs.length/\bs.length<=100000/\
 (∀(j:Nat) b c,bs[j]?=some b->cs[j]?=some c->SqT K H b [.ref c.2,.bl true]/\SqT K H c.2 (c.1.map kV))/\
 ∀l H' ys,H l=none->Same H H'->H' l=some (.ext (DictS P w l ys))->(∀y∈ys,∃c∈cs,y.1=c.1/\y.2.1=c.2)->(∀k,(atKey ys k).isSome=cs.any λc=>decide (k=c.1))->Q (.ref l) H'
theorem call_dictT {P:Program}{w:World}{K:Frag}(hc:X.calm=true)(hP:X.prog=P)(hw:X.w=w)(hK:X.K=K)(hu:X.A.units+4<cLine):CallR X (.type "dict") (rDictT P w K):=by
 subst hP hw hK
 intro pins s O H xs us Q I r h
 obtain⟨p,bs,cs,rfl,hp,hl,hz,hb,q⟩:=h
 obtain⟨u,rfl,ru⟩:=vals1 r
 cases ru
 obtain⟨_,its,n,hv,hg⟩:=I.hok p _ hp
 have hits:its=bs.map Value.ref:=by
  have:∀(bs:List Addr) (its:List Value),Vals (bs.map V.ref) its->its=bs.map Value.ref:=λbs=>by
   induction bs with
   |nil=>intro its h;cases h;rfl
   |cons b bs ih=>
    intro its h
    cases h with
    |cons h t=>rw[ih _ t];cases h;rfl
  exact this bs its hv
 subst hits
 have hsz:(bs.map Value.ref).toArray.size=bs.length:=by simp
 obtain⟨hp',g',d',tk,os'⟩:=s
 refine dict_of_pairs (A:=X.A) (l:=p) (items:=(bs.map Value.ref).toArray) (c:=n) (qs:=cs.map λc=>(c.1,c.2,Value.bool true)) hu (I.ok.hd hc) hg (by omega) (by rw[length_map,hsz,hl]) (λj q0 e=>?_) λh' tk' k1 k2=>?_
 .rw [getElem?_map]at e
  cases e3:cs[j]? with
  |none=>rw[e3]at e;cases e
  |some c=>
   rw[e3]at e
   cases e
   have hj:j<bs.length:=by rw[hl];exact (List.getElem?_eq_some_iff.mp e3).1
   obtain⟨s1,s2⟩:=hb j bs[j] c (getElem?_eq_getElem hj) e3
   obtain⟨its1,r1,t1,_⟩:=I.tuple s1
   obtain⟨its2,r2,⟨ob,o1,o2,n2,o3⟩,_⟩:=I.tuple s2
   refine⟨.ref bs[j],by simp[hj],bs[j],rfl,?_,⟨ob,its2.toArray,n2,o1,o2,o3,by simpa using items_are r2⟩⟩
   obtain⟨u,u',rfl,e1,e2⟩:=vals2 r1
   cases e1
   cases e2
   exact t1
 .have hn:H hp'.objs.size=none:=I.hok.fresh (Nat.le_refl _)
  have hbig:=I.big
  have hne:(hp'.objs.size==sysModules)=false:=by
   rw[beq_eq_false_iff_ne];exact ne_of_gt hbig
  have hob:∃o,h'.get? hp'.objs.size=some o:=let⟨o,_,_,e,_⟩:=k2;⟨o,e⟩
  have I':Inv X pins O (upd H hp'.objs.size (.ext (DictS X.prog X.w hp'.objs.size (puts [] (cs.map λc=>(c.1,c.2,Value.bool true)))))) ⟨h',g',d',tk',os'⟩:=
   I.laid k1 (Nat.le_refl _) ⟨⟨hne,k2⟩,hob,λh1 h2 ⟨z1,o,es,ep,z2,z3⟩ kp=>⟨z1,o,es,ep,kp _ z2,z3⟩⟩
  refine⟨.ref _,_,I',rfl,q _ _ _ hn (Same.new hn) upd_same (λy hy=>?_) λk=>?_⟩
  .obtain ⟨z,hz,e1,e2⟩:=puts_key hy
   rcases hz with hz |hz
   .cases hz
   .obtain ⟨c,hc,rfl⟩:=mem_map.mp hz
    exact⟨c,hc,e1,e2⟩
  .rw [atKey_puts,any_map]
   show ((atKey [] k).isSome ||_)=_
   simp[atKey,Function.comp_def]
def tDInX (P:Program)(w:World)(K:Frag)(ty td:TE):TE:=λO H Q=>ty O H λy H1=>td O H1 λx H2=>∃a b ys k,x = .ref a/\y = .ref b/\H2 a=some (.ext (DictS P w a ys))/\(∀y∈ys,SqT K H2 y.2.1 (y.1.map kV))/\SqT K H2 b (k.map kV)/\Q (.bl (atKey ys k).isSome) H2
theorem pc_dinX {P:Program}{w:World}{K:Frag}{i o:Expr}{ty td:TE}(hi:PE X i ty)(ho:PE X o td)(hP:X.prog=P)(hw:X.w=w)(hK:X.K=K)(hu:X.A.units+1<cLine):PC X .In i o (tDInX P w K ty td):=by
 subst hP hw hK
 intro pins s O H Q I h
 refine thn (hi pins s O H _ I h) λiv s1 ⟨y,H1,I1,ry,q1⟩=>thn (ho pins s1 O H1 _ I1 q1) λu s2 ⟨x,H2,I2,rx,a,b,ys,k,ex,ey,e,hys,hb,q2⟩=>?_
 subst ex ey
 obtain rfl:u=Value.ref a:=rx
 obtain rfl:iv=Value.ref b:=ry
 obtain⟨⟨hd,dd⟩,_⟩:=I2.hok a _ e
 have key:∀{b k},SqT X.K H2 b (k.map kV)->(tupleKind (mixKind X.prog X.w)).is s2.heap k b:=λhb=>by
  obtain⟨its,r,⟨ob,h1,h2,n,h3⟩,_⟩:=I2.tuple hb
  exact⟨ob,its.toArray,n,h1,h2,h3,by simpa using items_are r⟩
 refine wpAny_in_heap (tupleKind_room_in1 hu) (key hb) hd (dd.full λy hy=>key (hys y hy)) ?_
 exact⟨.bl _,H2,I2.tok _,rfl,q2⟩
end
open PySem PySem.Spec PyProof.Rows PyProof.V PySem.W
section
variable {X:Cx}
end
section
variable {X:Cx}
theorem sl_listK {K:Frag}(hK:X.K=K):SlR X (rSlS K):=by subst hK;exact sl_listS
end
def tDNewX (P:Program)(w:World):TE:=λ_ H Q=>∀p,H p=none->Q (.ref p) (upd H p (.ext (DictS P w p [])))
def sDPutX (P:Program)(w:World)(K:Frag)(td ty tv:TE):TS:=λD O H=>tv O H λ_ H1=>td O H1 λx H2=>ty O H2 λy H3=>∃a b ys k,x = .ref a/\y = .ref b/\H3 a=some (.ext (DictS P w a ys))/\(∀y∈ys,SqT K H3 y.2.1 (y.1.map kV))/\SqT K H3 b (k.map kV)/\ys.length<=100000/\
 ∀ys',(∀y∈ys',(y.1=k/\y.2.1=b)∨∃z∈ys,y.1=z.1/\y.2.1=z.2.1)->(∀k',(atKey ys' k').isSome=(decide (k'=k) || (atKey ys k').isSome))->ys'.length<=ys.length+1->D.nx O (upd H3 a (.ext (DictS P w a ys')))
section
variable {X:Cx}{pos pos':Pos}{o i value:Expr}{td ty tv:TE}
theorem dictS_kept {P:Program}{w:World}{a:Addr}{ys:List (List Key×Addr×Value)}(h1 h2:Heap):DictS P w a ys h1->(∀o,h1.get? a=some o->h2.get? a=some o)->DictS P w a ys h2:=λ⟨z1,o,es,ep,z2,z3⟩ kp=>⟨z1,o,es,ep,kp _ z2,z3⟩
theorem pe_dnewX {P:Program}{w:World}(hP:X.prog=P)(hw:X.w=w):PE X (.Dict [] [] pos) (tDNewX P w):=by
 subst hP hw
 intro pins s O H Q I h
 have hne:(s.heap.objs.size==sysModules)=false:=by rw[beq_eq_false_iff_ne];exact ne_of_gt I.big
 have e:=get?_push_size (h:=s.heap) (o:={cls:=.type "dict",data:=.dict #[]}) rfl
 exact wpAny_Dict_empty ⟨.ref s.heap.objs.size,_,I.laid (a:=s.heap.objs.size) (o:=.ext (DictS X.prog X.w s.heap.objs.size [])) (t':=s.toks) (λ_ _ q=>get?_push_of_some _ q) (Nat.le_refl _) ⟨⟨hne,_,_,0,e,⟨rfl,rfl,rfl⟩,rfl,rfl,nodup_nil⟩,⟨_,e⟩,dictS_kept⟩,rfl,h _ (I.hok.fresh (Nat.le_refl _))⟩
theorem ps_dputX {P:Program}{w:World}{K:Frag}(hP:X.prog=P)(hw:X.w=w)(hK:X.K=K)(hu:X.A.units+1<cLine)(ho:PE X o td)(hi:PE X i ty)(hv:PE X value tv)(hs:swapsWith value (some (.Subscript o i pos')) pos.line X.env=pure false):
  PS X (.Assign [.Subscript o i pos'] value pos) (sDPutX P w K td ty tv):=by
 subst hP hw hK
 intro pins s O H D I h
 refine wpAny_Assign_Subscript (thn (hv pins s O H _ I h) λr s1 ⟨v,H1,I1,rv,q1⟩=>thn (ho pins s1 O H1 _ I1 q1) λu s2 ⟨x,H2,I2,rx,q2⟩=>thn (hi pins s2 O H2 _ I2 q2) λiv s3 ⟨y,H3,I3,ry,a,b,ys,k,ex,ey,e,hys,hb,hl,q3⟩=>?_) hs
 subst ex ey
 obtain rfl:u=Value.ref a:=rx
 obtain rfl:iv=Value.ref b:=ry
 obtain⟨⟨hd,dd⟩,_⟩:=I3.hok a _ e
 have key:∀{b k},SqT X.K H3 b (k.map kV)->(tupleKind (mixKind X.prog X.w)).is s3.heap k b:=λhb=>by
  obtain⟨its,r,⟨ob,h1,h2,n,h3⟩,_⟩:=I3.tuple hb
  exact⟨ob,its.toArray,n,h1,h2,h3,by simpa using items_are r⟩
 refine wpAny_setItem_heap (hsz:=Nat.le_trans hl (by rw[sizeLine_eq];decide)) (tupleKind_room_in1 hu) (key hb) (dd.full λy hy=>key (hys y hy)) λh' dd' hsb=>?_
 have hob:∃o,h'.get? a=some o:=let⟨o,_,_,e,_⟩:=dd';⟨o,e⟩
 exact⟨O,_,d_write (ob:=.ext (DictS X.prog X.w a (storedH ys k b r))) I3 (by rw[e];exact True.intro) hsb hob ⟨⟨hd,DictOb.of dd'⟩,hob,dictS_kept⟩,q3 _ (λy hy=>storedH_mem hy) (λk'=>atKey_stored) storedH_len⟩
end
end L2
namespace Lw
open PySem L2 PyProof.Rows
def top (i:Nat):Stmt:=PySem.Challenge.pw_liftwave_k37_cone_alone.main.body.getD i (.Pass ⟨0,0,0,0⟩)
abbrev vD (d:D):Option Sl:=some (.own (.fz d))
abbrev vI (i:Int):Option Sl:=some (.own (.fz (.int i)))
abbrev vL (ts:List OV):Option Sl:=some (.own (.nl ts))
set_option hygiene false
local macro_rules | `(tactic|walk_at "b")=>`(tactic|first |exact (λ_ _ _ _ _ _ us hl=>match us,hl with | [_],_=>rfl) |exact (λ_ _ _ _ _ _ us hl=>match us,hl with | [_,_],_=>rfl) |exact (λ_ _ _ _ _ _ us hl=>match us,hl with | [_,_,_],_=>rfl) |exact (λ_ _ _ _ _ _ us hl=>match us,hl with | [_,_,_,_],_=>rfl) |exact (λ_ _ _ _ _ _ us hl=>match us,hl with | [_,_,_,_,_],_=>rfl) |exact (λ_ _ _ _ _ _ us hl=>match us,hl with | [_,_,_,_,_,_],_=>rfl))
local macro_rules | `(tactic|walk_at "S")=>`(tactic|exact⟨rfl,rfl,rfl,by decide +kernel,rfl,by decide +kernel,by decide +kernel⟩)
local macro_rules | `(tactic|fin2)=>`(tactic|simp only[vD,vI,vL,startV,sNext,sSeq,sRet,sRetV,sIf,sSet,sAug,sAsg,sApp,sPut,sApp2,sExt,sFrz,sNever,dCatL,dRevL,sFor,gN,gsNil,gsCons,gT,dFz,dVal,dLf,dV,dB,dC,dOp,dUn,rU1,rI2,rI2C,rEqD,rNeD,rNotN,D.isNon,dTb,dNot,dAnd,dOr,dAndV,dNotV,dChain,dNil,dCons,dNilO,dConsO,dTup,dLst,ixL,ixT,dCB,dCBo,lenD,listD,tupD,dNoPt,dPt,dSlL,dCall,dCallB,dItL,dItT,dRng1,dRng3,dRev,dSortSet,blkD,dComp,isiD,kitB,catTD,eqND,neND,D.same,allD,dZip,sumD,dSlB,dRep1,dListR2,dCompIf,sPut2,dSlSt,dSlSA,dCallD,dCallL,dCallLB,sCallIO,startIO,sTag,gB,dCompB,dRngD,OV.val,OV.vals,OV.vals_eq,D.lf,D.lfs,OV.lf,OV.lfs,map_cons,map_nil,cons_append,nil_append,length_cons,length_nil,List.replicate,Nat.reduceAdd,Nat.reduceSub,Nat.reduceLeDiff,List.getElem?_cons_zero,List.getElem?_cons_succ,set_cons_zero,set_cons_succ,Bool.not_true,Bool.not_false,Bool.true_and,Bool.and_true,Bool.false_and,Bool.and_false,true_and,and_true,if_true,if_false,false_eq_true,length_map,reduceIte,decide_eq_true_eq,Option.some.injEq,Sl.own.injEq,OV.ob.injEq,exists_eq_left',val_fzI,lfs_fzI,fz_int,app_fzI,CDiv,CMul,CPow,Int.reduceLT,Int.reduceLE,Int.reduceNeg,Int.reducePow,Int.reduceToNat,Int.reduceMul,Int.reduceAdd,Int.reduceSub,true_or,or_true,nat10,nat2,kn_int,kn_bool,kn_tuple,kn_list,String.reduceBEq,String.reduceEq,decide_true,decide_false,not_true_eq_false,Bool.not_eq_true,Bool.or_self,Bool.or_false,Bool.false_or,Bool.not_not,eq_self,ne_eq,not_true,not_false_eq_true,atI_c0,atI_c1,atI_c2,atI_c3,atI_c4,beq_self_eq_true,Bool.true_or,Bool.or_true])
local macro_rules | `(tactic|gn_on)=>`(tactic| (refine sSeq_k λN hN=>?_;fin2))
local macro_rules | `(tactic|gp_on)=>`(tactic| (refine hN _ ?_;clear hN;clear N))
set_option hygiene true
section
variable (P:Program)(w:World){K:Frag}{mg:Str->Option Value}(base:Heap)
seal L2.PA L2.PE L2.PS L2.PSs L2.PT L2.PW L2.PG L2.PGs L2.PO L2.PI
abbrev s_holds:Stmt:=top 9
theorem sc_holds:FnScope ["one","number"] ["one","number"] (defScope s_holds):=by walk_at "S"
def sp_holds:DSp:=λds P=>∃a b n:Int,ds=[.tup [.int a,.int b],.int n]/\P (.fz (.bl (decide (a<=n) && decide (n<=b))))
theorem ok_holds {f:Addr}{fd:FuncData}(Df:DefAt K mg "holds" s_holds f fd)(B:BltV mg)(KV:KitV K):
  Cal P w K mg base "holds" 1 ["one","number"] (spV K 2 sp_holds):=by
 refine CalV.of Df sc_holds (by walk_at "b") rfl (λc A o s H E hr=>⟨_,_,(pss_one (ps_ret (pe_chain op_le op_le (pe_ix ix_tup (pv 0) pe_int (λ_ _=>rfl)) (pv 1) (pe_ix ix_tup (pv 0) pe_int (λ_ _=>rfl))))),
  (sS_ret (sO_f (sF_chain oS_b0 oS_b0 (sB_op (OpF.b oF_ixT) sB_var (sB_f sF_int)) sB_var (sB_op (OpF.b oF_ixT) sB_var (sB_f sF_int))))),?_⟩)
 rintro ds Pr ⟨a,b,n,rfl,k⟩
 fin2
 by_cases h:a<=n
 .rw [if_pos h]
  rw[decide_eq_true h,Bool.true_and]at k
  exact k
 .rw [if_neg h]
  rw[decide_eq_false h,Bool.false_and]at k
  exact k
def nbL (t m s:Int):Int:=if t-s<0 then t+s else t-s
def nbR (t m s:Int):Int:=if m<=t+s then t-s else t+s
abbrev s_neighbours:Stmt:=top 16
theorem sc_neighbours:FnScope ["at","many","stride","left","right"] ["at","many","stride"] (defScope s_neighbours):=by walk_at "S"
def sp_neighbours:DSp:=λds P=>match ds with
 | [.int t,.int m,.int s]=>if t-s<0/\m<=t+s then P (.fz .non) else P (.fz (.tup [.int (nbL t m s),.int (nbR t m s)]))
 |_=>False
theorem ok_neighbours {f:Addr}{fd:FuncData}(Df:DefAt K mg "neighbours" s_neighbours f fd)(B:BltV mg)(KV:KitV K):
  Cal P w K mg base "neighbours" 1 ["at","many","stride"] (spV K 3 sp_neighbours):=by
 refine CalV.of Df sc_neighbours (by walk_at "b") rfl (λc A o s H E hr=>⟨_,_,(pss_cons (ps_set (i:=3) sc_neighbours.nd rfl (Or.inl rfl) (pe_op op_sub (pv 0) (pv 2)))
   (pss_cons (ps_set (i:=4) sc_neighbours.nd rfl (Or.inl rfl) (pe_op op_add (pv 0) (pv 2)))
   (pss_cons (ps_if (pw_and (pt_cmpR op_lt (pv 3) pe_int (nomark _)) (pw_and1 (pt_cmpR op_ge (pv 4) (pv 1) (nomark _)))).pt (pss_one (ps_ret pe_non)) pss_nil)
   (pss_cons (ps_if (pt_cmpR op_lt (pv 3) pe_int (nomark _)) (pss_one (ps_ret (pe_tupS (pa_cons (pv 4) (pa_cons (pv 4) pa_nil))))) pss_nil)
   (pss_cons (ps_if (pt_cmpR op_ge (pv 4) (pv 1) (nomark _)) (pss_one (ps_ret (pe_tupS (pa_cons (pv 3) (pa_cons (pv 3) pa_nil))))) pss_nil)
   (pss_one (ps_ret (pe_tupS (pa_cons (pv 3) (pa_cons (pv 4) pa_nil)))))))))),
  (sS_seq (sS_set (sO_f (sF_op oS_i0 sB_var sB_var)))
   (sS_seq (sS_set (sO_f (sF_op oS_i0 sB_var sB_var)))
   (sS_seq (sS_if (sT_and (sT_test (sF_op oS_b0 sB_var (sB_f sF_int))) (sT_test (sF_op oS_b0 sB_var sB_var))) (sS_ret (sO_f sF_non)) sS_next)
   (sS_seq (sS_if (sT_test (sF_op oS_b0 sB_var (sB_f sF_int))) (sS_ret (sO_f (sF_tup (sAF_cons sF_var (sAF_cons sF_var sAF_nil))))) sS_next)
   (sS_seq (sS_if (sT_test (sF_op oS_b0 sB_var sB_var)) (sS_ret (sO_f (sF_tup (sAF_cons sF_var (sAF_cons sF_var sAF_nil))))) sS_next)
   (sS_ret (sO_f (sF_tup (sAF_cons sF_var (sAF_cons sF_var sAF_nil)))))))))),?_⟩)
 intro ds Pr h
 unfold sp_neighbours at h
 split at h
 .rename_i t m s'
  fin2
  unfold nbL nbR at h
  by_cases h1:t-s'<0<;>by_cases h2:m<=t+s'<;>simpa[h1,h2] using h
 .exact h.elim
structure Lf where
 h:Int
 l:Int
 r:Int
 a:Int
 s:Int
structure Lf.Ok (f:Lf):Prop where
 h:f.h=0∨f.h=1
 l : -8<=f.l/\f.l<=8
 r : -8<=f.r/\f.r<=8
 a : -64<=f.a/\f.a<=64
 s:0<=f.s/\f.s<=8
def gainF (f:Lf)(x y:Int):Int:=(f.l*x+f.r*y+f.a) / 2^f.s.toNat
def cntF (h n st:Int):Nat:=(if h*st<n then (n-h*st-1) / (2*st)+1 else 0).toNat
theorem cnt_lt {h n st:Int}(hs:0<st)(i:Nat):i<cntF h n st↔h*st+(i:Int)*(2*st)<n:=by
 unfold cntF
 have h2:0<2*st:=by lia
 have h0:0<=(i:Int)*(2*st):=mul_nonneg (by lia) (by lia)
 split
 .have e:=Int.le_ediv_iff_mul_le (a:=(i:Int)) (b:=n-h*st-1) h2
  constructor
  .intro z
   lia
  .intro z
   lia
 .lia
def plcF (h n st:Int):List Int:=if n<=st then [] else (List.range (cntF h n st)).map λ(i:Nat)=>h*st+(i:Int)*(2*st)
theorem plc_mem {h n st t:Int}(hs:0<st):t∈plcF h n st↔¬ n<=st/\t<n/\∃i:Nat,t=h*st+(i:Int)*(2*st):=by
 unfold plcF
 split
 .rename_i hn
  constructor
  .intro z;cases z
  .intro z;exact absurd hn z.1
 .rename_i hn
  rw[mem_map]
  constructor
  .rintro ⟨i,hi,rfl⟩
   exact⟨hn,(cnt_lt hs i).mp (mem_range.mp hi),i,rfl⟩
  .rintro ⟨_,h1,i,rfl⟩
   exact⟨i,mem_range.mpr ((cnt_lt hs i).mpr h1),rfl⟩
theorem plc_nodup {h n st:Int}(hs:0<st):(plcF h n st).Nodup:=by
 unfold plcF
 split
 .exact nodup_nil
 .refine List.Pairwise.map _ (λi j hij=>?_) List.nodup_range
  intro e
  have:(i:Int)*(2*st)=(j:Int)*(2*st):=by lia
  have:=Int.eq_of_mul_eq_mul_right (by lia) this
  lia
theorem nb_in {h n st t:Int}(hs:0<st)(hh:h=0∨h=1)(ht:t∈plcF h n st):(0<=t/\t<n)/\(0<=nbL t n st/\nbL t n st<n)/\(0<=nbR t n st/\nbR t n st<n)/\¬ (t-st<0/\n<=t+st):=by
 obtain⟨h1,h2,i,rfl⟩:=(plc_mem hs).mp ht
 have hi:0<=(i:Int)*(2*st):=mul_nonneg (by lia) (by lia)
 have hz:0<=h*st:=by rcases hh with rfl |rfl<;>lia
 have key:h*st+(i:Int)*(2*st)-st<0->h*st+(i:Int)*(2*st)=0:=by
  intro z
  rcases Nat.eq_zero_or_pos i with rfl |hp
  .rcases hh with rfl |rfl
   .simp
   .simp at z ⊢<;>omega
  .have:1*(2*st)<=(i:Int)*(2*st):=Int.mul_le_mul_of_nonneg_right (by lia) (by lia)
   lia
 generalize h*st+(i:Int)*(2*st)=t at *
 unfold nbL nbR
 refine⟨⟨by lia,h2⟩,?_,?_,λz=>?_⟩
 .split<;>rename_i z
  .have:=key z;lia
  .lia
 .split
  .by_cases z:t-st<0
   .have:=key z;omega
   .lia
  .lia
 .have:=key z.1;lia
theorem nb_off {h n st t u:Int}(hs:0<st)(ht:∃i:Nat,t=h*st+(i:Int)*(2*st))(hu:u=nbL t n st∨u=nbR t n st):¬ ∃j:Nat,u=h*st+(j:Int)*(2*st):=by
 rintro⟨j,hj⟩
 obtain⟨i,hi⟩:=ht
 have key:∀d:Int,d=1∨d = -1->¬ (t+d*st=h*st+(j:Int)*(2*st)):=by
  intro d hd e
  have e2:((j:Int)-i)*(2*st)=d*st:=by rw[sub_mul];lia
  have e3:(((j:Int)-i)*2-d)*st=0:=by rw[sub_mul,mul_assoc];omega
  rcases Int.mul_eq_zero.mp e3 with z |z
  .rcases hd with rfl |rfl<;>lia
  .lia
 have k1:=key 1 (.inl rfl)
 have k2:=key (-1) (.inr rfl)
 unfold nbL nbR at hu
 rcases hu with rfl |rfl
 .split at hj
  .exact k1 (by lia)
  .exact k2 (by lia)
 .split at hj
  .exact k2 (by lia)
  .exact k1 (by lia)
def thingF (sg:Int)(f:Lf)(st:Int)(xs:List Int)(t:Int):Int:=
 xs.getD t.toNat 0+sg*gainF f (xs.getD (nbL t xs.length st).toNat 0) (xs.getD (nbR t xs.length st).toNat 0)
def turnF (sg:Int)(f:Lf)(st:Int)(xs:List Int)(t:Int):List Int:=xs.set t.toNat (thingF sg f st xs t)
theorem foldl_nat (sg:Int)(f:Lf)(st:Int):∀(ts:List Int) (xs:List Int),(∀t∈ts,0<=t)->ts.foldl (turnF sg f st) xs=(ts.map Int.toNat).foldl (λxs t=>xs.set t (thingF sg f st xs (t:Int))) xs
 | [],_,_=>rfl
 |t::ts,xs,h=>by
  rw[map_cons,foldl_cons,foldl_cons,foldl_nat sg f st ts _ λu hu=>h u (mem_cons_of_mem _ hu)]
  have:=h t mem_cons_self
  unfold turnF
  rw[show ((t.toNat:Nat):Int)=t by lia]
section GL
variable {α β:Type}
theorem getD_setG (z:α)(xs:List α)(t p:Nat)(v:α)(h:t<xs.length):(xs.set t v).getD p z=if p=t then v else xs.getD p z:=by
 rw[getD_eq_getElem?_getD,getD_eq_getElem?_getD,getElem?_set]
 by_cases e:p=t
 .subst e
  rw[if_pos rfl,if_pos rfl,if_pos h];rfl
 .rw [if_neg (λz=>e z.symm),if_neg e]
theorem ext_getDG (z:α){xs ys:List α}(hl:xs.length=ys.length)(h:∀p:Nat,p<xs.length->xs.getD p z=ys.getD p z):xs=ys:=by
 refine ext_getElem hl λi h1 h2=>?_
 have:=h i h1
 rw[getD_eq_getElem?_getD,getD_eq_getElem?_getD,getElem?_eq_getElem h1,getElem?_eq_getElem h2]at this
 exact this
def gThing (z:α)(G:α->α->α->α)(st:Int)(xs:List α)(t:Int):α:=G (xs.getD t.toNat z) (xs.getD (nbL t xs.length st).toNat z) (xs.getD (nbR t xs.length st).toNat z)
def gTurn (z:α)(G:α->α->α->α)(st:Int)(xs:List α)(t:Int):List α:=xs.set t.toNat (gThing z G st xs t)
def gLift (z:α)(G:α->α->α->α)(h st:Int)(xs:List α):List α:=(plcF h xs.length st).foldl (gTurn z G st) xs
theorem gTurn_len {z:α}{G:α->α->α->α}{st:Int}:∀(ts:List Int) (xs:List α),(ts.foldl (gTurn z G st) xs).length=xs.length
 | [],_=>rfl
 |t::ts,xs=>by
  rw[foldl_cons,gTurn_len ts]
  exact length_set
theorem g_at {z:α}{G:α->α->α->α}{h st:Int}{xs:List α}(hs:0<st)(hh:h=0∨h=1):∀(k:Nat),
  (((plcF h xs.length st).take k).foldl (gTurn z G st) xs).length=xs.length/\
  ∀p:Nat,(((plcF h xs.length st).take k).foldl (gTurn z G st) xs).getD p z=if (p:Int)∈(plcF h xs.length st).take k then gThing z G st xs p else xs.getD p z
 | 0=>⟨rfl,λp=>rfl⟩
 |k + 1 => by
  obtain⟨l1,g1⟩:=g_at hs hh k
  by_cases hk:k<(plcF h xs.length st).length
  .rw [take_succ_eq_append_getElem hk,foldl_append]
   have htm:(plcF h xs.length st)[k]∈plcF h xs.length st:=getElem_mem hk
   generalize ht:(plcF h xs.length st)[k]=t at htm ⊢
   obtain⟨b0,b1,b2,_⟩:=nb_in hs hh htm
   obtain⟨_,_,i,hi⟩:=(plc_mem hs).mp htm
   have o1:¬ nbL t xs.length st∈(plcF h xs.length st).take k:=λz=>nb_off hs ⟨i,hi⟩ (.inl rfl) ((plc_mem hs).mp (mem_of_mem_take z)).2.2
   have o2:¬ nbR t xs.length st∈(plcF h xs.length st).take k:=λz=>nb_off hs ⟨i,hi⟩ (.inr rfl) ((plc_mem hs).mp (mem_of_mem_take z)).2.2
   have o0:¬ t∈(plcF h xs.length st).take k:=λz=>by
    obtain⟨q,hq,eq⟩:=mem_iff_getElem.mp z
    rw[length_take]at hq
    rw[List.getElem_take]at eq
    have hne:=List.pairwise_iff_getElem.mp (plc_nodup hs) q k (by (clear l1 hi eq;lia)) hk (by (clear l1 hi eq;lia))
    exact hne (by rw[eq,ht])
   generalize ((plcF h xs.length st).take k).foldl (gTurn z G st) xs=wc at l1 g1
   have e0:gThing z G st wc t=gThing z G st xs t:=by
    unfold gThing
    rw[l1,g1,g1,g1,show ((t.toNat:Nat):Int)=t by (clear ht l1;lia),if_neg o0,show (((nbL t xs.length st).toNat:Nat):Int)=nbL t xs.length st by (clear ht hi l1;lia),if_neg o1,show (((nbR t xs.length st).toNat:Nat):Int)=nbR t xs.length st by (clear ht hi l1;lia),if_neg o2]
   refine⟨by rw[foldl_cons];show (wc.set _ _).length=_;rw[length_set];exact l1,λp=>?_⟩
   show (wc.set t.toNat (gThing z G st wc t)).getD p z=_
   rw[getD_setG z wc t.toNat p _ (by (clear ht;lia)),e0,g1 p]
   by_cases e:p=t.toNat
   .have e':(p:Int)=t:=by (clear ht l1;lia)
    rw[if_pos e,if_pos (by rw[e'];simp),e']
   .rw [if_neg e]
    have:((p:Int)∈(plcF h xs.length st).take k++[t])↔(p:Int)∈(plcF h xs.length st).take k:=by
     rw[mem_append,mem_singleton]
     constructor
     .rintro (q |q)
      .exact q
      .clear ht l1;lia
     .exact .inl
    by_cases hp:(p:Int)∈(plcF h xs.length st).take k
    .rw [if_pos hp,if_pos (this.mpr hp)]
    .rw [if_neg hp,if_neg λq=>hp (this.mp q)]
  .rw [take_of_length_le (by lia)]
   rw[take_of_length_le (by lia)]at l1 g1
   exact⟨l1,g1⟩
theorem g_all {z:α}{G:α->α->α->α}{h st:Int}{xs:List α}(hs:0<st)(hh:h=0∨h=1):
  (gLift z G h st xs).length=xs.length/\∀p:Nat,(gLift z G h st xs).getD p z=if (p:Int)∈plcF h xs.length st then gThing z G st xs p else xs.getD p z:=by
 have q:=g_at (z:=z) (G:=G) (xs:=xs) hs hh (plcF h xs.length st).length
 rw[take_length]at q
 exact q
def gLowerK (z:α)(G:Lf->α->α->α->α)(fs:List Lf)(i:Nat)(st:Int)(xs:List α):List α:=(fs.reverse.take i).foldl (λxs f=>gLift z (G f) f.h st xs) xs
def gLower (z:α)(G:Lf->α->α->α->α)(fs:List Lf)(st:Int)(xs:List α):List α:=fs.reverse.foldl (λxs f=>gLift z (G f) f.h st xs) xs
theorem gLowerK_zero {z:α}{G:Lf->α->α->α->α}{fs:List Lf}{st:Int}{xs:List α}:gLowerK z G fs 0 st xs=xs:=rfl
theorem gLowerK_all {z:α}{G:Lf->α->α->α->α}{fs:List Lf}{st:Int}{xs:List α}:gLowerK z G fs fs.length st xs=gLower z G fs st xs:=by
 unfold gLowerK gLower
 rw[take_of_length_le (by simp)]
theorem gLowerK_succ {z:α}{G:Lf->α->α->α->α}{fs:List Lf}{i:Nat}{st:Int}{xs:List α}{f:Lf}(hi:i<fs.length)(h:fs[fs.length-1-i]?=some f):gLowerK z G fs (i+1) st xs=gLift z (G f) f.h st (gLowerK z G fs i st xs):=by
 unfold gLowerK
 have hi':i<fs.reverse.length:=by simpa using hi
 have e:fs.reverse[i]=f:=by
  have:=getElem?_reverse hi
  rw[h,getElem?_eq_getElem hi']at this
  exact Option.some.inj this
 rw[take_succ_eq_append_getElem hi',e,foldl_append]
 rfl
theorem gLift_len {z:α}{G:α->α->α->α}{h st:Int}{xs:List α}:(gLift z G h st xs).length=xs.length:=gTurn_len _ _
theorem gFold_len {z:α}{G:Lf->α->α->α->α}{st:Int}:∀(gs:List Lf) (xs:List α),(gs.foldl (λxs f=>gLift z (G f) f.h st xs) xs).length=xs.length
 | [],_=>rfl
 |g::gs,xs=>by rw[foldl_cons,gFold_len gs,gLift_len]
theorem gLowerK_len {z:α}{G:Lf->α->α->α->α}{fs:List Lf}{i:Nat}{st:Int}{xs:List α}:(gLowerK z G fs i st xs).length=xs.length:=gFold_len _ _
theorem gLower_len {z:α}{G:Lf->α->α->α->α}{fs:List Lf}{st:Int}{xs:List α}:(gLower z G fs st xs).length=xs.length:=gFold_len _ _
end GL
abbrev Sp2:=Int×Int
def sGain (f:Lf)(l r:Sp2):Sp2:=
 let tm (s:Sp2) (m:Int):Sp2:=if m<0 then (s.2*m,s.1*m) else (s.1*m,s.2*m)
 (((tm l f.l).1+(tm r f.r).1+f.a) / 2^f.s.toNat,((tm l f.l).2+(tm r f.r).2+f.a) / 2^f.s.toNat)
def sDown (f:Lf)(x l r:Sp2):Sp2:=(x.1-(sGain f l r).2,x.2-(sGain f l r).1)
theorem rngN_lt {lo hi c:Int}(hc:0<c)(i:Nat):i<rngN lo hi c↔lo+(i:Int)*c<hi:=by
 unfold rngN Builtin.Range.rangeSize
 rw[if_pos (show c > 0 from hc)]
 have h0:0<=(i:Int)*c:=mul_nonneg (by lia) (by lia)
 split
 .have e:=Int.le_ediv_iff_mul_le (a:=(i:Int)) (b:=hi-lo-1) hc
  have e0:0<=(hi-lo-1) / c:=ediv_nonneg (by lia) (by lia)
  constructor
  .intro z
   have:=e.mp (by omega)
   lia
  .intro z
   have:=e.mpr (by lia)
   lia
 .simp only[Int.toNat_zero]
  lia
theorem nat_eq_of_lt {a b:Nat}(h:∀i,i<a↔i<b):a=b:=by
 rcases Nat.lt_trichotomy a b with z |z |z
 .exact absurd ((h a).mpr z) (lt_irrefl _)
 .exact z
 .exact absurd ((h b).mp z) (lt_irrefl _)
section PT
variable {α:Type}
end PT
theorem ixN_in {n:Nat}{i:Int}(h0:0<=i)(h:i<n):ixN n i=some i.toNat:=by
 unfold ixN
 rw[if_pos h0,if_pos h]
theorem atI_map {α:Type}(z:α){g:α->D}{xs:List α}{i:Int}(h0:0<=i)(h:i<xs.length):atI (xs.map g) i=some (g (xs.getD i.toNat z)):=by
 have hi:i.toNat<xs.length:=by lia
 have e:=atI_nat (xs:=xs.map g) (j:=i.toNat) (v:=g (xs.getD i.toNat z)) (by simp[hi])
 rwa[show ((i.toNat:Nat):Int)=i by lia]at e
theorem val_fzG {α:Type}{xs:List α}{g:α->D}:List.map OV.val (xs.map λx=>OV.fz (g x))=xs.map g:=by
 rw[map_map];rfl
theorem fz_mapG {α:Type}{xs:List α}{g:α->D}:(xs.map g).map OV.fz=xs.map λx=>OV.fz (g x):=by
 rw[map_map];rfl
theorem set_mapG {α β:Type}{xs:List α}{i:Nat}{v:α}{g:α->β}:(xs.map g).set i (g v)=(xs.set i v).map g:=by
 rw[List.map_set]
def lfD (f:Lf):D:=.tup [.int f.h,.int f.l,.int f.r,.int f.a,.int f.s]
def ladD (fs:List Lf):D:=.tup (fs.map lfD)
def iL (xs:List Int):D:=.lst (xs.map D.int)
def iO (xs:List Int):OV:=.nl (xs.map λx=>.fz (.int x))
theorem rng_cnt {h n st:Int}(hs:0<st):rngN (h*st) n (2*st)=cntF h n st:=by
 unfold rngN cntF Builtin.Range.rangeSize
 rw[if_pos (show 2*st > 0 by lia)]
def plcK (h n st:Int)(k:Nat):List Int:=if n<=st then [] else (List.range k).map λ(i:Nat)=>h*st+(i:Int)*(2*st)
def plD (n st:Int)(t:Int):D:=.tup [.int t,.int (nbL t n st),.int (nbR t n st)]
abbrev s_lifted_places:Stmt:=top 17
theorem sc_lifted_places:FnScope ["half","many","stride","found","at","pair"] ["half","many","stride"] (defScope s_lifted_places):=by walk_at "S"
def sp_lifted_places:DSp:=λds P=>match ds with
 | [.int h,.int n,.int st]=>((h=0∨h=1)/\0<st/\st<=64/\0<=n/\n<=100000)/\P (.nl ((plcF h n st).map λt=>.fz (plD n st t)))
 |_=>False
theorem ok_lifted_places {f:Addr}{fd:FuncData}(Df:DefAt K mg "lifted_places" s_lifted_places f fd)(B:BltV mg)(KV:KitV K)(c_neighbours:Cal P w K mg base "neighbours" 1 ["at","many","stride"] (spV K 3 sp_neighbours)):
  Cal P w K mg base "lifted_places" 2 ["half","many","stride"] (spV K 3 sp_lifted_places):=by
 refine CalV.of Df sc_lifted_places (by walk_at "b") rfl (λc A o s H E hr=>⟨_,_,(pss_cons (ps_set (i:=3) sc_lifted_places.nd rfl (Or.inl rfl) (pe_lstS pa_nil))
   (pss_cons (ps_for PassesOwn.never rfl (pi_range3 (by rfl) (by exact B.range) (pa_cons (pe_op op_mul (pv 0) (pv 2)) (pa_cons (pv 1) (pa_cons (pe_op op_mul pe_int (pv 2)) pa_nil)))) (pg_name (i:=4) sc_lifted_places.nd rfl (Or.inl rfl)) (pss_cons (ps_set (i:=5) sc_lifted_places.nd rfl (Or.inl rfl) (pe_cal c_neighbours (hr.mono (by decide)) (by rfl) (pa_cons (pv 4) (pa_cons (pv 1) (pa_cons (pv 2) pa_nil)))))
   (pss_one (ps_if (pt_cmpR op_notN (pv 5) pe_non (nomark _)) (pss_one (ps_expr (pe_bm plainAttrs_list PySem.F.slot_list_append PySem.F.type_list_append mt_append (pv 3) (pa_cons (pe_tupS (pa_cons (pv 4) (pa_cons (pe_ix ix_tup (pv 5) pe_int (λ_ _=>rfl)) (pa_cons (pe_ix ix_tup (pv 5) pe_int (λ_ _=>rfl)) pa_nil)))) pa_nil)))) pss_nil))))
   (pss_one (ps_ret (pv 3))))),
  (sS_seq (sS_set (sO_lst sAO_nil))
   (sS_seq (sS_for (sI_rng3 (sAB_cons (sB_f (sF_op oS_i sB_var sB_var)) (sAB_cons sB_var (sAB_cons (sB_f (sF_op oS_i (sB_f sF_int) sB_var)) sAB_nil)))) sG_name (sS_seq (sS_set (sO_f (sF_o (sO_call (sAF_cons sF_var (sAF_cons sF_var (sAF_cons sF_var sAF_nil)))))))
   (sS_if (sT_test (sF_op oS_notN sB_var (sB_f sF_non))) (sS_app (sO_f (sF_tup (sAF_cons sF_var (sAF_cons (sF_opF oF_ixT sF_var sF_int) (sAF_cons (sF_opF oF_ixT sF_var sF_int) sAF_nil)))))) sS_next)))
   sS_retV)),?_⟩)
 intro ds Pr h
 unfold sp_lifted_places at h
 split at h
 .rename_i h' n st
  obtain⟨⟨hh,s0,s1,n0,n1⟩,k⟩:=h
  fin2
  refine⟨.inr ⟨by lia,by lia⟩,⟨by rcases hh with rfl |rfl<;>lia,by rcases hh with rfl |rfl<;>lia,by lia,by lia,by lia,by lia⟩,?_⟩
  rw[rng_cnt s0]
  refine⟨λi M=>i<=cntF h' n st/\∃o1 o2,M=[vI h',vI n,vI st,vL ((plcK h' n st i).map λt=>.fz (plD n st t)),o1,o2],⟨zero_le _,_,_,by unfold plcK;split<;>rfl⟩,?_,?_⟩
  .rintro i d M hd ⟨hi',o1,o2,rfl⟩
   obtain⟨hi,rfl⟩:=rng_inv hd
   have hlt:=(cnt_lt (h:=h') (n:=n) s0 i).mp hi
   have hcnt:cntF h' n st<=100001:=by
    rcases lt_or_ge 100001 (cntF h' n st) with z |z
    .have:=(cnt_lt (h:=h') (n:=n) s0 100001).mp z
     have h0:0<=h'*st:=by rcases hh with rfl |rfl<;>lia
     lia
    .exact z
   fin2
   unfold sp_neighbours
   generalize ht:h'*st+(i:Int)*(2*st)=t at *
   try dsimp only
   split
   .rename_i hn
    fin2
    have hns:n<=st:=by
     rcases Int.lt_or_le st n with z |z
     .exact absurd hn (nb_in s0 hh ((plc_mem s0).mpr ⟨by lia,hlt,i,ht.symm⟩)).2.2.2
     .exact z
    have e:∀j,plcK h' n st j=[]:=λj=>if_pos hns
    rw[e,e]
    exact⟨hi,_,_,rfl⟩
   .rename_i hn
    fin2
    have hns:¬ n<=st:=λz=>hn (by
     have h0:0<=(i:Int)*(2*st):=mul_nonneg (by lia) (by lia)
     have h1:0<=h'*st:=by rcases hh with rfl |rfl<;>lia
     constructor<;>omega)
    have el:(plcK h' n st i).length=i:=by unfold plcK;rw[if_neg hns];simp
    have e:plcK h' n st (i+1)=plcK h' n st i++[t]:=by
     unfold plcK
     rw[if_neg hns,if_neg hns,range_succ,map_append,<- ht]
     rfl
    rw[e,map_append]
    exact⟨by lia,hi,_,_,rfl⟩
  .rintro M ⟨_,o1,o2,rfl⟩
   fin2
   rw[rng_len]
   exact k
 .exact h.elim
def spD (s:Sp2):D:=.tup [.int s.1,.int s.2]
def sL (xs:List Sp2):D:=.lst (xs.map spD)
def sO (xs:List Sp2):OV:=.nl (xs.map λs=>.fz (spD s))
theorem lf_spD {s:Sp2}:(spD s).lf=true:=by simp[D.lf,D.lfs,spD]
abbrev s_plus:Stmt:=top 5
theorem sc_plus:FnScope ["one","other"] ["one","other"] (defScope s_plus):=by walk_at "S"
def sp_plus:DSp:=λds P=>∃a b:Sp2,ds=[spD a,spD b]/\P (.fz (spD (a.1+b.1,a.2+b.2)))
theorem ok_plus {f:Addr}{fd:FuncData}(Df:DefAt K mg "plus" s_plus f fd)(B:BltV mg)(KV:KitV K):
  Cal P w K mg base "plus" 1 ["one","other"] (spV K 2 sp_plus):=by
 refine CalV.of Df sc_plus (by walk_at "b") rfl (λc A o s H E hr=>⟨_,_,(pss_one (ps_ret (pe_tupS (pa_cons (pe_op op_add (pe_ix ix_tup (pv 0) pe_int (λ_ _=>rfl)) (pe_ix ix_tup (pv 1) pe_int (λ_ _=>rfl))) (pa_cons (pe_op op_add (pe_ix ix_tup (pv 0) pe_int (λ_ _=>rfl)) (pe_ix ix_tup (pv 1) pe_int (λ_ _=>rfl))) pa_nil))))),
  (sS_ret (sO_f (sF_tup (sAF_cons (sF_op oS_i0 (sB_op (OpF.b oF_ixT) sB_var (sB_f sF_int)) (sB_op (OpF.b oF_ixT) sB_var (sB_f sF_int))) (sAF_cons (sF_op oS_i0 (sB_op (OpF.b oF_ixT) sB_var (sB_f sF_int)) (sB_op (OpF.b oF_ixT) sB_var (sB_f sF_int))) sAF_nil))))),?_⟩)
 rintro ds Pr ⟨a,b,rfl,k⟩
 simp only[spD]at k ⊢
 fin2
 exact k
abbrev s_minus:Stmt:=top 6
theorem sc_minus:FnScope ["one","other"] ["one","other"] (defScope s_minus):=by walk_at "S"
def sp_minus:DSp:=λds P=>∃a b:Sp2,ds=[spD a,spD b]/\P (.fz (spD (a.1-b.2,a.2-b.1)))
theorem ok_minus {f:Addr}{fd:FuncData}(Df:DefAt K mg "minus" s_minus f fd)(B:BltV mg)(KV:KitV K):
  Cal P w K mg base "minus" 1 ["one","other"] (spV K 2 sp_minus):=by
 refine CalV.of Df sc_minus (by walk_at "b") rfl (λc A o s H E hr=>⟨_,_,(pss_one (ps_ret (pe_tupS (pa_cons (pe_op op_sub (pe_ix ix_tup (pv 0) pe_int (λ_ _=>rfl)) (pe_ix ix_tup (pv 1) pe_int (λ_ _=>rfl))) (pa_cons (pe_op op_sub (pe_ix ix_tup (pv 0) pe_int (λ_ _=>rfl)) (pe_ix ix_tup (pv 1) pe_int (λ_ _=>rfl))) pa_nil))))),
  (sS_ret (sO_f (sF_tup (sAF_cons (sF_op oS_i0 (sB_op (OpF.b oF_ixT) sB_var (sB_f sF_int)) (sB_op (OpF.b oF_ixT) sB_var (sB_f sF_int))) (sAF_cons (sF_op oS_i0 (sB_op (OpF.b oF_ixT) sB_var (sB_f sF_int)) (sB_op (OpF.b oF_ixT) sB_var (sB_f sF_int))) sAF_nil))))),?_⟩)
 rintro ds Pr ⟨a,b,rfl,k⟩
 simp only[spD]at k ⊢
 fin2
 exact k
def tmS (s:Sp2)(m:Int):Sp2:=if m<0 then (s.2*m,s.1*m) else (s.1*m,s.2*m)
abbrev s_times:Stmt:=top 7
theorem sc_times:FnScope ["one","many"] ["one","many"] (defScope s_times):=by walk_at "S"
def sp_times:DSp:=λds P=>∃(a:Sp2) (m:Int),ds=[spD a,.int m]/\(-1000000<=m/\m<=1000000)/\P (.fz (spD (tmS a m)))
theorem ok_times {f:Addr}{fd:FuncData}(Df:DefAt K mg "times" s_times f fd)(B:BltV mg)(KV:KitV K):
  Cal P w K mg base "times" 1 ["one","many"] (spV K 2 sp_times):=by
 refine CalV.of Df sc_times (by walk_at "b") rfl (λc A o s H E hr=>⟨_,_,(pss_cons (ps_if (pt_cmpR op_lt (pv 1) pe_int (nomark _)) (pss_one (ps_ret (pe_tupS (pa_cons (pe_op op_mul (pe_ix ix_tup (pv 0) pe_int (λ_ _=>rfl)) (pv 1)) (pa_cons (pe_op op_mul (pe_ix ix_tup (pv 0) pe_int (λ_ _=>rfl)) (pv 1)) pa_nil))))) pss_nil)
   (pss_one (ps_ret (pe_tupS (pa_cons (pe_op op_mul (pe_ix ix_tup (pv 0) pe_int (λ_ _=>rfl)) (pv 1)) (pa_cons (pe_op op_mul (pe_ix ix_tup (pv 0) pe_int (λ_ _=>rfl)) (pv 1)) pa_nil)))))),
  (sS_seq (sS_if (sT_test (sF_op oS_b0 sB_var (sB_f sF_int))) (sS_ret (sO_f (sF_tup (sAF_cons (sF_op oS_i (sB_op (OpF.b oF_ixT) sB_var (sB_f sF_int)) sB_var) (sAF_cons (sF_op oS_i (sB_op (OpF.b oF_ixT) sB_var (sB_f sF_int)) sB_var) sAF_nil))))) sS_next)
   (sS_ret (sO_f (sF_tup (sAF_cons (sF_op oS_i (sB_op (OpF.b oF_ixT) sB_var (sB_f sF_int)) sB_var) (sAF_cons (sF_op oS_i (sB_op (OpF.b oF_ixT) sB_var (sB_f sF_int)) sB_var) sAF_nil)))))),?_⟩)
 rintro ds Pr ⟨a,m,rfl,hm,k⟩
 simp only[spD,tmS]at k ⊢
 fin2
 split
 .rename_i h
  rw[if_pos h]at k
  exact⟨mulR hm.1 hm.2,mulR hm.1 hm.2,k⟩
 .rename_i h
  rw[if_neg h]at k
  exact⟨mulR hm.1 hm.2,mulR hm.1 hm.2,k⟩
abbrev s_halved:Stmt:=top 8
theorem sc_halved:FnScope ["one","shift"] ["one","shift"] (defScope s_halved):=by walk_at "S"
def sp_halved:DSp:=λds P=>∃(a:Sp2) (m:Int),ds=[spD a,.int m]/\0<=m/\P (.fz (spD (a.1 / 2^m.toNat,a.2 / 2^m.toNat)))
theorem ok_halved {f:Addr}{fd:FuncData}(Df:DefAt K mg "halved" s_halved f fd)(B:BltV mg)(KV:KitV K):
  Cal P w K mg base "halved" 1 ["one","shift"] (spV K 2 sp_halved):=by
 refine CalV.of Df sc_halved (by walk_at "b") rfl (λc A o s H E hr=>⟨_,_,(pss_one (ps_ret (pe_tupS (pa_cons (pe_op op_shr (pe_ix ix_tup (pv 0) pe_int (λ_ _=>rfl)) (pv 1)) (pa_cons (pe_op op_shr (pe_ix ix_tup (pv 0) pe_int (λ_ _=>rfl)) (pv 1)) pa_nil))))),
  (sS_ret (sO_f (sF_tup (sAF_cons (sF_op oS_i (sB_op (OpF.b oF_ixT) sB_var (sB_f sF_int)) sB_var) (sAF_cons (sF_op oS_i (sB_op (OpF.b oF_ixT) sB_var (sB_f sF_int)) sB_var) sAF_nil))))),?_⟩)
 rintro ds Pr ⟨a,m,rfl,hm,k⟩
 simp only[spD]at k ⊢
 fin2
 exact⟨hm,hm,k⟩
theorem sGain_eq {f:Lf}{l r:Sp2}:sGain f l r=(((tmS l f.l).1+(tmS r f.r).1+f.a) / 2^f.s.toNat,((tmS l f.l).2+(tmS r f.r).2+f.a) / 2^f.s.toNat):=rfl
abbrev s_gain_span:Stmt:=top 19
theorem sc_gain_span:FnScope ["lift","left","right","both"] ["lift","left","right"] (defScope s_gain_span):=by walk_at "S"
def sp_gain_span:DSp:=λds P=>∃(f:Lf) (l r:Sp2),ds=[lfD f,spD l,spD r]/\f.Ok/\P (.fz (spD (sGain f l r)))
theorem ok_gain_span {f:Addr}{fd:FuncData}(Df:DefAt K mg "gain_span" s_gain_span f fd)(B:BltV mg)(KV:KitV K)(g_SHIFT:∃t,mg "SHIFT"=some (.int 4 t))(g_LEFT:∃t,mg "LEFT"=some (.int 1 t))(g_RIGHT:∃t,mg "RIGHT"=some (.int 2 t))(g_ADD:∃t,mg "ADD"=some (.int 3 t))(c_plus:Cal P w K mg base "plus" 1 ["one","other"] (spV K 2 sp_plus))(c_times:Cal P w K mg base "times" 1 ["one","many"] (spV K 2 sp_times))(c_halved:Cal P w K mg base "halved" 1 ["one","shift"] (spV K 2 sp_halved)):
  Cal P w K mg base "gain_span" 2 ["lift","left","right"] (spV K 3 sp_gain_span):=by
 refine CalV.of Df sc_gain_span (by walk_at "b") rfl (λc A o s H E hr=>⟨_,_,(pss_cons (ps_set (i:=3) sc_gain_span.nd rfl (Or.inl rfl) (pe_cal c_plus (hr.mono (by decide)) (by rfl) (pa_cons (pe_cal c_times (hr.mono (by decide)) (by rfl) (pa_cons (pv 1) (pa_cons (pe_ix ix_tup (pv 0) (pe_globI (by rfl) g_LEFT) (λ_ _=>rfl)) pa_nil))) (pa_cons (pe_cal c_times (hr.mono (by decide)) (by rfl) (pa_cons (pv 2) (pa_cons (pe_ix ix_tup (pv 0) (pe_globI (by rfl) g_RIGHT) (λ_ _=>rfl)) pa_nil))) pa_nil))))
   (pss_one (ps_ret (pe_cal c_halved (hr.mono (by decide)) (by rfl) (pa_cons (pe_cal c_plus (hr.mono (by decide)) (by rfl) (pa_cons (pv 3) (pa_cons (pe_tupS (pa_cons (pe_ix ix_tup (pv 0) (pe_globI (by rfl) g_ADD) (λ_ _=>rfl)) (pa_cons (pe_ix ix_tup (pv 0) (pe_globI (by rfl) g_ADD) (λ_ _=>rfl)) pa_nil))) pa_nil))) (pa_cons (pe_ix ix_tup (pv 0) (pe_globI (by rfl) g_SHIFT) (λ_ _=>rfl)) pa_nil)))))),
  (sS_seq (sS_set (sO_f (sF_o (sO_call (sAF_cons (sF_o (sO_call (sAF_cons sF_var (sAF_cons (sF_opF oF_ixT sF_var sF_int) sAF_nil)))) (sAF_cons (sF_o (sO_call (sAF_cons sF_var (sAF_cons (sF_opF oF_ixT sF_var sF_int) sAF_nil)))) sAF_nil))))))
   (sS_ret (sO_call (sAF_cons (sF_o (sO_call (sAF_cons sF_var (sAF_cons (sF_tup (sAF_cons (sF_opF oF_ixT sF_var sF_int) (sAF_cons (sF_opF oF_ixT sF_var sF_int) sAF_nil))) sAF_nil)))) (sAF_cons (sF_opF oF_ixT sF_var sF_int) sAF_nil))))),?_⟩)
 rintro ds Pr ⟨f,l,r,rfl,ok,k⟩
 have h1:=ok.l
 have h2:=ok.r
 have h3:=ok.s
 simp only[lfD]
 fin2
 refine⟨l,f.l,rfl,⟨by lia,by lia⟩,r,f.r,rfl,⟨by lia,by lia⟩,tmS l f.l,tmS r f.r,rfl,?_⟩
 fin2
 refine⟨_,(f.a,f.a),rfl,_,f.s,rfl,h3.1,?_⟩
 rw[sGain_eq]at k
 exact k
abbrev s_lowered_spans:Stmt:=top 20
theorem sc_lowered_spans:FnScope ["row","ladder","stride","things","lift","at","left","right"] ["row","ladder","stride"] (defScope s_lowered_spans):=by walk_at "S"
def sp_lowered_spans:DSp:=λds P=>∃(xs:List Sp2) (fs:List Lf) (st:Int),ds=[sL xs,ladD fs,.int st]/\((∀f∈fs,f.Ok)/\0<st/\st<=64/\xs.length<=100000)/\P (sO (gLower (0,0) sDown fs st xs))
theorem ok_lowered_spans {f:Addr}{fd:FuncData}(Df:DefAt K mg "lowered_spans" s_lowered_spans f fd)(B:BltV mg)(KV:KitV K)(g_HALF:∃t,mg "HALF"=some (.int 0 t))(c_lifted_places:Cal P w K mg base "lifted_places" 2 ["half","many","stride"] (spV K 3 sp_lifted_places))(c_minus:Cal P w K mg base "minus" 1 ["one","other"] (spV K 2 sp_minus))(c_gain_span:Cal P w K mg base "gain_span" 2 ["lift","left","right"] (spV K 3 sp_gain_span)):
  Cal P w K mg base "lowered_spans" 3 ["row","ladder","stride"] (spV K 3 sp_lowered_spans):=by
 refine CalV.of Df sc_lowered_spans (by walk_at "b") rfl (λc A o s H E hr=>⟨_,_,(pss_cons (ps_set (i:=3) sc_lowered_spans.nd rfl (Or.inl rfl) (pe_callTy call_listS (by rfl) B.list PyProof.Rows.boot_list (pa_cons (pv 0) pa_nil)))
   (pss_cons (ps_for PassesOwn.never rfl (pi_reversed rfl B.reversed (pa_cons (pv 1) pa_nil)) (pg_name (i:=4) sc_lowered_spans.nd rfl (Or.inl rfl)) (pss_one (ps_for PassesOwn.never rfl (pi_list (pe_cal c_lifted_places (hr.mono (by decide)) (by rfl) (pa_cons (pe_ix ix_tup (pv 4) (pe_globI (by rfl) g_HALF) (λ_ _=>rfl)) (pa_cons (pe_callB call_len_seq (by rfl) B.len boot_len (pa_cons (pv 0) pa_nil)) (pa_cons (pv 2) pa_nil))))) (pg_tup (n:=3) rfl (pgs_cons (pg_name (i:=5) sc_lowered_spans.nd rfl (Or.inl rfl)) (pgs_cons (pg_name (i:=6) sc_lowered_spans.nd rfl (Or.inl rfl)) (pgs_cons (pg_name (i:=7) sc_lowered_spans.nd rfl (Or.inl rfl)) pgs_nil)))) (pss_one (ps_asg (pe_cal c_minus (hr.mono (by decide)) (by rfl) (pa_cons (pe_ix ix_list (pv 3) (pv 5) (λ_ _=>rfl)) (pa_cons (pe_cal c_gain_span (hr.mono (by decide)) (by rfl) (pa_cons (pv 4) (pa_cons (pe_ix ix_list (pv 3) (pv 6) (λ_ _=>rfl)) (pa_cons (pe_ix ix_list (pv 3) (pv 7) (λ_ _=>rfl)) pa_nil)))) pa_nil))) (pg_sub (pv 3) (pv 5) set_list))))))
   (pss_one (ps_ret (pv 3))))),
  (sS_seq (sS_set (sO_cb cO_list (sAF_cons sF_var sAF_nil)))
   (sS_seq (sS_for (sI_rev (sAF_cons sF_var sAF_nil)) sG_name (sS_for (sI_list (sF_o (sO_call (sAF_cons (sF_opF oF_ixT sF_var sF_int) (sAF_cons (sF_cb cS_len (sAB_cons sB_var sAB_nil)) (sAF_cons sF_var sAF_nil)))))) (sG_tup (sGs_cons sG_name (sGs_cons sG_name (sGs_cons sG_name sGs_nil)))) (sS_put (sO_callB (sAB_cons (sB_op (OpF.b oF_ixL) sB_var sB_var) (sAB_cons (sB_f (sF_o (sO_callB (sAB_cons sB_var (sAB_cons (sB_op (OpF.b oF_ixL) sB_var sB_var) (sAB_cons (sB_op (OpF.b oF_ixL) sB_var sB_var) sAB_nil)))))) sAB_nil))) sB_var)))
   sS_retV)),?_⟩)
 rintro ds Pr ⟨xs,fs,st,rfl,⟨oks,s0,s1,hx⟩,k⟩
 simp only[sL,ladD]
 fin2
 simp only[fz_mapG]
 refine⟨λi M=>∃o1 o2 o3 o4,M=[vD (sL xs),vD (ladD fs),vI st,some (.own (sO (gLowerK (0,0) sDown fs i st xs))),o1,o2,o3,o4],⟨none,none,none,none,by simp[sL,ladD,sO,gLowerK_zero]⟩,?_,?_⟩
 .rintro i d M hd ⟨o1,o2,o3,o4,rfl⟩
  rw[<- map_reverse]at hd
  obtain⟨f,hf,rfl⟩:=mget hd
  have hil:i<fs.length:=by
   have:=(List.getElem?_eq_some_iff.mp hf).1
   rwa[length_reverse]at this
  rw[getElem?_reverse hil]at hf
  have okf:=oks f (mem_of_getElem? hf)
  have hlen:(gLowerK (0,0) sDown fs i st xs).length=xs.length:=gLowerK_len
  dsimp only
  rw[gLowerK_succ hil hf]
  generalize hc:gLowerK (0,0) sDown fs i st xs=cur at hlen
  simp only[sL,ladD,sO,lfD]
  fin2
  simp only[sp_lifted_places]
  refine⟨⟨okf.h,s0,s1,by lia,by lia⟩,?_⟩
  fin2
  simp only[map_map,Function.comp_def,OV.val]
  rw[<- hlen]
  refine⟨λj M=>∃o2 o3 o4,M=[vD (sL xs),vD (ladD fs),vI st,some (.own (sO (((plcF f.h cur.length st).take j).foldl (gTurn (0,0) (sDown f) st) cur))),vD (lfD f),o2,o3,o4],⟨_,_,_,rfl⟩,?_,?_⟩
  .rintro j e M he ⟨p2,p3,p4,rfl⟩
   obtain⟨t,ht,rfl⟩:=mget he
   have htm:t∈plcF f.h cur.length st:=mem_of_getElem? ht
   obtain⟨hjt,htt⟩:=List.getElem?_eq_some_iff.mp ht
   obtain⟨b0,b1,b2,_⟩:=nb_in s0 okf.h htm
   have hla:=(g_at (z:=((0,0):Sp2)) (G:=sDown f) (h:=f.h) (st:=st) (xs:=cur) s0 okf.h j).1
   have etake:(plcF f.h cur.length st).take (j+1)=(plcF f.h cur.length st).take j++[t]:=by
    rw[take_succ_eq_append_getElem hjt,htt]
   dsimp only
   rw[etake,foldl_append]
   generalize hw:((plcF f.h cur.length st).take j).foldl (gTurn (0,0) (sDown f) st) cur=wcur at hla
   simp only[sL,ladD,sO,plD,lfD]
   fin2
   simp only[val_fzG]
   refine⟨_,atI_map (0,0) b0.1 (by (clear hx hil hlen htt;lia)),_,atI_map (0,0) b1.1 (by (clear hx hil hlen htt;lia)),_,atI_map (0,0) b2.1 (by (clear hx hil hlen htt;lia)),f,_,_,rfl,okf,?_⟩
   simp only[OV.lf,lf_spD,true_and]
   fin2
   refine⟨_,_,rfl,?_⟩
   simp only[OV.lf,lf_spD,true_and]
   refine⟨_,ixN_in b0.1 (by (clear hx hil hlen htt;lia)),?_⟩
   rw[set_mapG (g:=λs=>OV.fz (spD s))]
   simp only[foldl_cons,List.foldl_nil,gTurn,gThing,hla,sDown]
   exact⟨_,_,_,rfl⟩
  .rintro M ⟨p2,p3,p4,rfl⟩
   rw[length_map,take_length]
   exact⟨_,_,_,_,rfl⟩
 .rintro M ⟨o1,o2,o3,o4,rfl⟩
  fin2
  rw[length_reverse,length_map,gLowerK_all]
  exact k
abbrev fnTb:DTb:=[("lowered_spans",sp_lowered_spans)]
section SH
variable {α β:Type}
def tab (n:Nat)(f:Nat->β):List β:=(List.range n).map f
theorem tab_len {n:Nat}{f:Nat->β}:(tab n f).length=n:=by simp[tab]
theorem tab_get {n i:Nat}{f:Nat->β}(h:i<n):(tab n f)[i]?=some (f i):=by simp[tab,h]
theorem tab_getD {n i:Nat}{f:Nat->β}{d:β}(h:i<n):(tab n f).getD i d=f i:=by simp[tab,h]
theorem tab_ext {n:Nat}{f g:Nat->β}(h:∀i,i<n->f i=g i):tab n f=tab n g:=map_congr_left λi hi=>h i (mem_range.mp hi)
theorem tab_map {γ:Type}{n:Nat}{f:Nat->β}{g:β->γ}:(tab n f).map g=tab n λi=>g (f i):=by simp[tab]
theorem tab_self (z:α)(xs:List α):tab xs.length (λi=>xs.getD i z)=xs:=by
 refine ext_getDG z (by rw[tab_len]) λp hp=>?_
 rw[tab_len]at hp
 rw[tab_getD hp]
theorem tab_selfn (z:α){n:Nat}{xs:List α}(h:xs.length=n):tab n (λi=>xs.getD i z)=xs:=by subst h;exact tab_self z xs
theorem tab_set {n i:Nat}{f:Nat->β}{v:β}:(tab n f).set i v=tab n λj=>if j=i then v else f j:=by
 refine ext_getElem? λj=>?_
 rw[getElem?_set,tab_len]
 by_cases hj:j<n
 .rw [tab_get hj,tab_get hj]
  by_cases e:i=j
  .subst e;simp[hj]
  .rw [if_neg e,if_neg λz=>e z.symm]
 .have e1:(tab n f)[j]?=none:=getElem?_eq_none (by rw[tab_len];lia)
  have e2:(tab n λj=>if j=i then v else f j)[j]?=none:=getElem?_eq_none (by rw[tab_len];lia)
  rw[e1,e2]
  split
  .rw [if_neg (by lia)]
  .rfl
theorem atI_tab {n:Nat}{f:Nat->D}{i:Int}(h0:0<=i)(h:i<n):atI (tab n f) i=some (f i.toNat):=by
 have e:=atI_nat (xs:=tab n f) (tab_get (show i.toNat<n by lia))
 rwa[show ((i.toNat:Nat):Int)=i by lia]at e
def rowF (z:α)(op:List α->List α)(w st:Nat)(e:Nat->Nat->α):Nat->Nat->α:=λi j=>if i%st=0 then (op (tab w (e i))).getD j z else e i j
def colF (z:α)(op:List α->List α)(h st:Nat)(e:Nat->Nat->α):Nat->Nat->α:=λi j=>if j%st=0 then (op (tab h λi=>e i j)).getD i z else e i j
def eqS (h w:Nat)(e e':Nat->Nat->α):Prop:=∀i j,i<h->j<w->e i j=e' i j
def openF (z:α)(op:Nat->List α->List α)(h w:Nat):Nat->Nat->(Nat->Nat->α)->Nat->Nat->α
 | 0,_,e=>e
 |n+1,d,e=>if d<=n then openF z op h w n d (rowF z (op n) w (2^n) (colF z (op n) h (2^n) e)) else e
end SH
def shT {α:Type}(g:α->D)(h w:Nat)(e:Nat->Nat->α):List OV:=tab h λi=>.nl (tab w λj=>.fz (g (e i j)))
def shV {α:Type}(g:α->D)(h w:Nat)(e:Nat->Nat->α):List D:=tab h λi=>.lst (tab w λj=>g (e i j))
theorem shT_val {α:Type}{g:α->D}{h w:Nat}{e:Nat->Nat->α}:(shT g h w e).map OV.val=shV g h w e:=by
 unfold shT shV
 rw[tab_map]
 simp only[OV.val,OV.vals_eq,tab_map]
theorem shT_ext {α:Type}{g:α->D}{h w:Nat}{e e':Nat->Nat->α}(q:eqS h w e e'):shT g h w e=shT g h w e':=by
 exact tab_ext λi hi=>by rw[tab_ext λj hj=>by rw[q i j hi hj]]
structure OpOk (α:Type) (z:α) (g:α->D) (op:List α->List α) (n:Nat) (st:Nat) (lad:D) (sp:DSp):Prop where
 run:∀r:List α,r.length=n->∀Q:OV->Prop,Q (.nl ((op r).map λx=>.fz (g x)))->sp [.lst (r.map g),lad,.int st] Q
 len:∀r:List α,r.length=n->(op r).length=n
 off:∀(r:List α) (i:Nat),r.length=n->i<n->i%st≠0->(op r).getD i z=r.getD i z
 lf:∀x,(g x).lf=true
abbrev s_change_rows:Stmt:=top 24
theorem sc_change_rows:FnScope ["sheet","doing","ladder","stride","i"] ["sheet","doing","ladder","stride"] (defScope s_change_rows):=by walk_at "S"
def sp_change_rows:DIO:=λts ds P=>∃(α:Type) (z:α) (g:α->D) (op:List α->List α) (x:Str) (sp:DSp) (lad:D) (h w st:Nat) (e:Nat->Nat->α),ts=shT g h w e/\ds=[.fn x,lad,.int st]/\(x,sp)∈fnTb/\OpOk α z g op w st lad sp/\0<st/\st<=64/\h<=1000/\P (shT g h w (rowF z op w st e))
theorem lf_row {α:Type}{g:α->D}(hg:∀x,(g x).lf=true)(xs:List α):OV.lf (.nl (xs.map λx=>.fz (g x)))=true:=by
 simp[OV.lf,OV.lfs_eq,hg]
theorem step_lt {h st:Nat}(s0:0<st){n:Nat}(hn:n<rngN 0 h st):n*st<h:=by
 have:=(rngN_lt (by lia) n).mp hn
 rw[Int.zero_add]at this
 exact_mod_cast this
theorem step_all {h st i:Nat}(s0:0<st)(hi:i<h)(hm:i%st=0):i<rngN 0 h st*st:=by
 rcases lt_or_ge i (rngN 0 h st*st) with q |q
 .exact q
 .exfalso
  have h1:rngN 0 h st<=i / st:=by
   rw[Nat.le_div_iff_mul_le s0];exact q
  have h2:¬ (rngN 0 h st<rngN 0 h st):=lt_irrefl _
  apply h2
  rw[rngN_lt (by lia)]
  have h4:rngN 0 h st*st<h:=by lia
  have:((rngN 0 h st*st:Nat):Int)<h:=by exact_mod_cast h4
  rw[Int.zero_add]
  exact_mod_cast this
theorem rngN_le {h st:Nat}(s0:0<st):rngN 0 h st<=h:=by
 rcases lt_or_ge h (rngN 0 h st) with q |q
 .have:=step_lt s0 q
  have h2:h*1<=h*st:=Nat.mul_le_mul_left _ s0
  lia
 .exact q
theorem ok_change_rows {f:Addr}{fd:FuncData}(Df:DefAt K mg "change_rows" s_change_rows f fd)(B:BltV mg)(KV:KitV K)(n_lowered_spans:NsOf K mg "lowered_spans")(c_lowered_spans:Cal P w K mg base "lowered_spans" 3 ["row","ladder","stride"] (spV K 3 sp_lowered_spans)):
  Cal P w K mg base "change_rows" 4 ["sheet","doing","ladder","stride"] (spIO K 4 sp_change_rows):=by
 refine CalIO.of Df sc_change_rows (by walk_at "b") rfl (λc A o s H E hr=>⟨_,_,(pss_one (ps_for PassesOwn.never rfl (pi_range3 (by rfl) (by exact B.range) (pa_cons pe_int (pa_cons (pe_callB call_len_seq (by rfl) B.len boot_len (pa_cons (pv 0) pa_nil)) (pa_cons (pv 3) pa_nil)))) (pg_name (i:=4) sc_change_rows.nd rfl (Or.inl rfl)) (pss_one (ps_asg (pe_calL (pv 1) (tbV_all (K:=K) (n:=3) (tb:=fnTb) (k:=3) (by simp only[fnTb,forall_mem_cons];exact⟨⟨_,c_lowered_spans.mono (by decide)⟩,λ_ h=>by cases h⟩)) (hr.mono (by decide)) (pa_cons (pe_ix ix_list (pv 0) (pv 4) (λ_ _=>rfl)) (pa_cons (pv 2) (pa_cons (pv 3) pa_nil)))) (pg_sub (pv 0) (pv 4) set_list))))),
  (sS_for (sI_rng3 (sAB_cons (sB_f sF_int) (sAB_cons (sB_f (sF_cb cS_len (sAB_cons sB_var sAB_nil))) (sAB_cons sB_var sAB_nil)))) sG_name (sS_tag (i:=0) loc_put (sS_put (sO_callLB (tb:=fnTb) (by simp only[fnTb,forall_mem_cons];exact⟨n_lowered_spans,λ_ h=>by cases h⟩) (sAB_cons (sB_op (OpF.b oF_ixL) sB_var sB_var) (sAB_cons sB_var (sAB_cons sB_var sAB_nil)))) sB_var))),?_⟩)
 rintro a ts ds Pr ⟨α,z,g,op,x,sp,lad,h,w,st,e,rfl,rfl,hm,ok,s0,s1,hh,k⟩
 fin2
 refine⟨⟨by lia,by rw[shT,tab_len];lia,by lia,by lia⟩,?_⟩
 rw[show ((shT g h w e).length:Int)=(h:Int) by rw[shT,tab_len]]
 refine⟨λn M=>n<=rngN 0 h st/\∃o,M=[some (.own (.rt a (shT g h w λi j=>if i%st=0/\i<n*st then (op (tab w (e i))).getD j z else e i j))),vD (.fn x),vD lad,vI st,o],⟨zero_le _,none,?_⟩,?_,?_⟩
 .simp only[zero_mul,not_lt_zero,and_false,if_false]
 .rintro n d M hd ⟨hn,o,rfl⟩
  obtain⟨hi,rfl⟩:=rng_inv hd
  have hlt:=step_lt s0 hi
  have hnat:(0+(n:Int)*(st:Int))=((n*st:Nat):Int):=by rw[Int.zero_add];exact_mod_cast rfl
  rw[hnat]
  fin2
  refine⟨sp,hm,?_⟩
  rw[shT_val]
  refine⟨_,atI_tab (by lia) (by exact_mod_cast hlt),?_⟩
  rw[show ((n*st:Nat):Int).toNat=n*st by lia]
  have er:(D.lst (tab w λj=>g (if (n*st)%st=0/\n*st<n*st then (op (tab w (e (n*st)))).getD j z else e (n*st) j))) = .lst ((tab w (e (n*st))).map g):=by
   rw[tab_map]
   simp only[lt_irrefl,and_false,if_false]
  rw[er]
  try fin2
  refine ok.run _ tab_len _ ?_
  refine⟨lf_row ok.lf _,n*st,?_,?_⟩
  .rw [shT,tab_len]
   have:=ixN_in (n:=h) (i:=((n*st:Nat):Int)) (by lia) (by exact_mod_cast hlt)
   rwa[show ((n*st:Nat):Int).toNat=n*st by lia]at this
  .try fin2
   refine⟨hi,some (.own (.fz (.int ((n*st:Nat):Int)))),?_⟩
   have es : (shT g h w λi j=>if i%st=0/\i<n*st then (op (tab w (e i))).getD j z else e i j).set (n*st) (.nl ((op (tab w (e (n*st)))).map λx=>.fz (g x)))=shT g h w λi j=>if i%st=0/\i<(n+1)*st then (op (tab w (e i))).getD j z else e i j:=by
    unfold shT
    rw[tab_set]
    refine tab_ext λi hi'=>?_
    by_cases q:i=n*st
    .subst q
     rw[if_pos rfl]
     have e1:∀j,(if (n*st)%st=0/\n*st<(n+1)*st then (op (tab w (e (n*st)))).getD j z else e (n*st) j)=(op (tab w (e (n*st)))).getD j z:=λj=>if_pos ⟨mul_mod_left _ _,by rw[Nat.add_mul];lia⟩
     simp only[e1]
     congr 1
     rw[<- tab_map (f:=λj=>(op (tab w (e (n*st)))).getD j z) (g:=λx=>OV.fz (g x)),tab_selfn z (ok.len _ tab_len)]
    .rw [if_neg q]
     congr 1
     refine tab_ext λj _=>?_
     have:(i%st=0/\i<n*st)↔(i%st=0/\i<(n+1)*st):=by
      constructor
      .rintro ⟨q1,q2⟩
       exact⟨q1,by rw[Nat.add_mul];lia⟩
      .rintro ⟨q1,q2⟩
       refine⟨q1,?_⟩
       have e2:i=i / st*st:=by
        have:=Nat.div_add_mod i st
        rw[q1,add_zero,Nat.mul_comm]at this
        exact this.symm
       have e3:i / st<n+1:=by rw[Nat.div_lt_iff_lt_mul s0];exact q2
       rcases lt_or_ge (i / st) n with y |y
       .have:(i / st+1)*st<=n*st:=Nat.mul_le_mul_right _ y
        rw[Nat.add_mul]at this
        lia
       .have:i / st=n:=by lia
        rw[this]at e2
        exact absurd e2 q
     dsimp only
     by_cases y:i%st=0/\i<n*st
     .rw [if_pos y,if_pos (this.mp y)]
     .rw [if_neg y,if_neg λy'=>y (this.mpr y')]
   rw[es]
 .rintro M ⟨_,o,rfl⟩
  rw[rng_len]
  refine⟨_,rfl,?_⟩
  rw[shT_ext (e':=rowF z op w st e)]
  .exact k
  .intro i j hi hj
   show (if i%st=0/\i<rngN 0 h st*st then _ else _)=if i%st=0 then _ else _
   by_cases q:i%st=0
   .rw [if_pos ⟨q,step_all s0 hi q⟩,if_pos q]
   .rw [if_neg λy=>q y.1,if_neg q]
abbrev s_change_columns:Stmt:=top 25
theorem sc_change_columns:FnScope ["sheet","doing","ladder","stride","j","column","i"] ["sheet","doing","ladder","stride"] (defScope s_change_columns):=by walk_at "S"
def sp_change_columns:DIO:=λts ds P=>∃(α:Type) (z:α) (g:α->D) (op:List α->List α) (x:Str) (sp:DSp) (lad:D) (h w st:Nat) (e:Nat->Nat->α),ts=shT g h w e/\ds=[.fn x,lad,.int st]/\(x,sp)∈fnTb/\OpOk α z g op h st lad sp/\0<st/\st<=64/\0<h/\h<=1000/\w<=1000/\P (shT g h w (colF z op h st e))
theorem mod_lt_succ {i st n:Nat}(s0:0<st)(q1:i%st=0)(hne:i≠n*st):i<n*st↔i<(n+1)*st:=by
 constructor
 .intro y
  rw[Nat.add_mul];lia
 .intro q2
  have e2:i=i / st*st:=by
   have:=Nat.div_add_mod i st
   rw[q1,add_zero,Nat.mul_comm]at this
   exact this.symm
  have e3:i / st<n+1:=by rw[Nat.div_lt_iff_lt_mul s0];exact q2
  rcases lt_or_ge (i / st) n with y |y
  .have:(i / st+1)*st<=n*st:=Nat.mul_le_mul_right _ y
   rw[Nat.add_mul]at this
   lia
  .have:i / st=n:=by lia
   rw[this]at e2
   exact absurd e2 hne
theorem ok_change_columns {f:Addr}{fd:FuncData}(Df:DefAt K mg "change_columns" s_change_columns f fd)(B:BltV mg)(KV:KitV K)(n_lowered_spans:NsOf K mg "lowered_spans")(c_lowered_spans:Cal P w K mg base "lowered_spans" 3 ["row","ladder","stride"] (spV K 3 sp_lowered_spans)):
  Cal P w K mg base "change_columns" 4 ["sheet","doing","ladder","stride"] (spIO K 4 sp_change_columns):=by
 refine CalIO.of Df sc_change_columns (by walk_at "b") rfl (λc A o s H E hr=>⟨_,_,(pss_one (ps_for PassesOwn.never rfl (pi_range3 (by rfl) (by exact B.range) (pa_cons pe_int (pa_cons (pe_callB call_len_seq (by rfl) B.len boot_len (pa_cons (pe_ix ix_list (pv 0) pe_int (λ_ _=>rfl)) pa_nil)) (pa_cons (pv 3) pa_nil)))) (pg_name (i:=4) sc_change_columns.nd rfl (Or.inr rfl)) (pss_cons (ps_set (i:=5) sc_change_columns.nd rfl (Or.inl rfl) (pe_calL (pv 1) (tbV_all (K:=K) (n:=3) (tb:=fnTb) (k:=3) (by simp only[fnTb,forall_mem_cons];exact⟨⟨_,c_lowered_spans.mono (by decide)⟩,λ_ h=>by cases h⟩)) (hr.mono (by decide)) (pa_cons (pe_comp rfl (pi_list (pv 0)) (show BlkScope (defScope s_change_columns) _ from⟨rfl,by decide +kernel,by decide +kernel,by decide +kernel⟩) (N:=["row","j"]) (ix:=[none,some 4]) (show CapOf _ _ _ _ from⟨⟨rfl,rfl,.inl rfl⟩,trivial⟩) (λ_ _ _=>(pg_name (i:=0) (show List.Nodup (["row","j"]:List Str) by decide +kernel) rfl (Or.inl rfl))) (λ_ _ _=>(pe_ix ix_list (pv 0) (pv 1) (λ_ _=>rfl)))) (pa_cons (pv 2) (pa_cons (pv 3) pa_nil)))))
   (pss_one (ps_for PassesOwn.never rfl (pi_range3 (by rfl) (by exact B.range) (pa_cons pe_int (pa_cons (pe_callB call_len_seq (by rfl) B.len boot_len (pa_cons (pv 0) pa_nil)) (pa_cons (pv 3) pa_nil)))) (pg_name (i:=6) sc_change_columns.nd rfl (Or.inl rfl)) (pss_one (ps_asg (pe_ix ix_list (pv 5) (pv 6) (λ_ _=>rfl)) (pg_sub (pe_ix ix_list (pv 0) (pv 6) (λ_ _=>rfl)) (pv 4) set_list)))))))),
  (sS_for (sI_rng3 (sAB_cons (sB_f sF_int) (sAB_cons (sB_f (sF_cb cS_len (sAB_cons (sB_op (OpF.b oF_ixL) sB_var (sB_f sF_int)) sAB_nil))) (sAB_cons sB_var sAB_nil)))) sG_name (sS_seq (sS_set (sO_f (sF_o (sO_callL (tb:=fnTb) (by simp only[fnTb,forall_mem_cons];exact⟨n_lowered_spans,λ_ h=>by cases h⟩) (sAF_cons (sF_o (sO_compB sB_var (sO_f (sF_lf (sB_op (OpF.b oF_ixL) sB_var sB_var))))) (sAF_cons sF_var (sAF_cons sF_var sAF_nil)))))))
   (sS_for (sI_rng3 (sAB_cons (sB_f sF_int) (sAB_cons (sB_f (sF_cb cS_len (sAB_cons sB_var sAB_nil))) (sAB_cons sB_var sAB_nil)))) sG_name (sS_tag (i:=0) loc_put (sS_put2 (sF_opF oF_ixL sF_var sF_var) sB_var sB_var))))),?_⟩)
 rintro a ts ds Pr ⟨α,z,g,op,x,sp,lad,h,w,st,e,rfl,rfl,hm,ok,s0,s1,h0,hh,hw,k⟩
 fin2
 rw[shT_val]
 refine⟨_,atI_tab (by lia) (by lia),?_⟩
 fin2
 rw[tab_len]
 refine⟨⟨by lia,by lia,by lia,by lia⟩,?_⟩
 refine⟨λn M=>n<=rngN 0 w st/\∃o1 o2 o3,M=[some (.own (.rt a (shT g h w λi j=>if j%st=0/\j<n*st then (op (tab h λi=>e i j)).getD i z else e i j))),vD (.fn x),vD lad,vI st,o1,o2,o3],⟨zero_le _,none,none,none,?_⟩,?_,?_⟩
 .simp only[zero_mul,not_lt_zero,and_false,if_false]
 .rintro n d M hd ⟨hn,o1,o2,o3,rfl⟩
  obtain⟨hi,rfl⟩:=rng_inv hd
  have hlt:=step_lt s0 hi
  have hnat:(0+(n:Int)*(st:Int))=((n*st:Nat):Int):=by rw[Int.zero_add];exact_mod_cast rfl
  rw[hnat]
  generalize hj:n*st=j at hlt
  fin2
  refine⟨sp,hm,?_⟩
  rw[shT_val]
  refine CmpW.mapB (List.range h) _ (λi=>.fz (g (e i j))) (by rw[length_range];lia) (λi hi' Q q=>?_) ?_
  .have hi'':=mem_range.mp hi'
   fin2
   refine⟨_,atI_tab (by lia) (by exact_mod_cast hlt),?_⟩
   rw[show ((j:Nat):Int).toNat=j by lia,if_neg λy=>by lia]
   exact⟨ok.lf _,q⟩
  .have e1 : (List.range h).map (λi=>OV.fz (g (e i j)))=(tab h λi=>e i j).map λx=>OV.fz (g x):=by rw[tab_map];rfl
   rw[e1]
   fin2
   simp only[val_fzG]
   refine ok.run _ tab_len _ ?_
   generalize hcc:tab h (λi=>e i j)=c
   have hcl:c.length=h:=by rw[<- hcc];exact tab_len
   have hol:=ok.len c hcl
   fin2
   simp only[val_fzG]
   refine⟨⟨by lia,by rw[shT,tab_len];lia,by lia,by lia⟩,?_⟩
   rw[show ((shT g h w λi j'=>if j'%st=0/\j'<j then (op (tab h λi=>e i j')).getD i z else e i j').length:Int)=(h:Int) by rw[shT,tab_len]]
   refine⟨λm M=>∃o3,M=[some (.own (.rt a (shT g h w λi j'=>if j'=j/\i%st=0/\i<m*st then (op c).getD i z else if j'%st=0/\j'<j then (op (tab h λi=>e i j')).getD i z else e i j'))),vD (.fn x),vD lad,vI st,vI j,vD (.lst ((op c).map g)),o3],⟨o3,?_⟩,?_,?_⟩
   .simp only[zero_mul,not_lt_zero,and_false,if_false]
   .rintro m d M hd' ⟨p3,rfl⟩
    obtain⟨hm',rfl⟩:=rng_inv hd'
    have hlt':=step_lt s0 hm'
    have hnat':(0+(m:Int)*(st:Int))=((m*st:Nat):Int):=by rw[Int.zero_add];exact_mod_cast rfl
    rw[hnat']
    generalize hi0:m*st=i at hlt'
    fin2
    refine⟨_,atI_map z (by lia) (by rw[hol];exact_mod_cast hlt'),?_⟩
    rw[show ((i:Nat):Int).toNat=i by lia]
    refine⟨i,_,?_,tab_get hlt',j,?_,?_⟩
    .rw [shT,tab_len]
     have:=ixN_in (n:=h) (i:=((i:Nat):Int)) (by lia) (by exact_mod_cast hlt')
     rwa[show ((i:Nat):Int).toNat=i by lia]at this
    .rw [tab_len]
     have:=ixN_in (n:=w) (i:=((j:Nat):Int)) (by lia) (by exact_mod_cast hlt)
     rwa[show ((j:Nat):Int).toNat=j by lia]at this
    .try fin2
     refine⟨vI ((i:Nat):Int),?_⟩
     have es:(shT g h w λi j'=>if j'=j/\i%st=0/\i<m*st then (op c).getD i z else if j'%st=0/\j'<j then (op (tab h λi=>e i j')).getD i z else e i j').set i (.nl ((tab w λj'=>OV.fz (g (if j'=j/\i%st=0/\i<m*st then (op c).getD i z else if j'%st=0/\j'<j then (op (tab h λi=>e i j')).getD i z else e i j'))).set j (.fz (g ((op c).getD i z))))) =
       shT g h w λi j'=>if j'=j/\i%st=0/\i<(m+1)*st then (op c).getD i z else if j'%st=0/\j'<j then (op (tab h λi=>e i j')).getD i z else e i j':=by
      unfold shT
      rw[tab_set]
      refine tab_ext λi' hi'=>?_
      by_cases q:i'=i
      .subst q
       rw[if_pos rfl,tab_set]
       congr 1
       refine tab_ext λj' hj'=>?_
       dsimp only
       by_cases y:j'=j
       .subst y
        rw[if_pos rfl,if_pos ⟨rfl,by rw[<- hi0];exact mul_mod_left _ _,by rw[<- hi0,Nat.add_mul];lia⟩]
       .simp only[y,false_and,if_false]
      .rw [if_neg q]
       congr 1
       refine tab_ext λj' hj'=>?_
       dsimp only
       by_cases y:j'=j/\i'%st=0
       .have hne:i'≠m*st:=by rw[hi0];exact q
        have:=mod_lt_succ (n:=m) s0 y.2 hne
        by_cases y2:i'<m*st
        .rw [if_pos ⟨y.1,y.2,y2⟩,if_pos ⟨y.1,y.2,this.mp y2⟩]
        .rw [if_neg (show ¬ (j'=j/\i'%st=0/\i'<m*st) from λy'=>y2 y'.2.2),if_neg (show ¬ (j'=j/\i'%st=0/\i'<(m+1)*st) from λy'=>y2 (this.mpr y'.2.2))]
       .rw [if_neg (show ¬ (j'=j/\i'%st=0/\i'<m*st) from λy'=>y ⟨y'.1,y'.2.1⟩),if_neg (show ¬ (j'=j/\i'%st=0/\i'<(m+1)*st) from λy'=>y ⟨y'.1,y'.2.1⟩)]
     simp only[hi0]at es
     rw[es]
   .rintro M ⟨p3,rfl⟩
    rw[rng_len]
    refine⟨hi,vI j,vD (.lst ((op c).map g)),p3,?_⟩
    rw[shT_ext (e':=λi j=>if j%st=0/\j<(n+1)*st then (op (tab h λi=>e i j)).getD i z else e i j)]
    intro i j' hi' hj'
    dsimp only
    by_cases y:j'=j
    .subst y
     rw[hcc,if_pos (show j'%st=0/\j'<(n+1)*st from⟨by rw[<- hj];exact mul_mod_left _ _,by rw[<- hj,Nat.add_mul];lia⟩)]
     by_cases q:i%st=0
     .rw [if_pos ⟨rfl,q,step_all s0 hi' q⟩]
     .rw [if_neg λy'=>q y'.2.1,if_neg (show ¬ (j'%st=0/\j'<j') from λy'=>by lia),ok.off c i hcl hi' q,<- hcc,tab_getD hi']
    .rw [if_neg λy'=>y y'.1]
     by_cases q:j'%st=0
     .have hne:j'≠n*st:=by rw[hj];exact y
      have:=mod_lt_succ (n:=n) s0 q hne
      rw[hj]at this
      by_cases y2:j'<j
      .rw [if_pos ⟨q,y2⟩,if_pos ⟨q,this.mp y2⟩]
      .rw [if_neg λy'=>y2 y'.2,if_neg λy'=>y2 (this.mpr y'.2)]
     .rw [if_neg λy'=>q y'.1,if_neg λy'=>q y'.1]
 .rintro M ⟨_,o1,o2,o3,rfl⟩
  rw[rng_len]
  refine⟨_,rfl,?_⟩
  rw[shT_ext (e':=colF z op h st e)]
  .exact k
  .intro i j hi hj
   show (if j%st=0/\j<rngN 0 w st*st then _ else _)=if j%st=0 then _ else _
   by_cases q:j%st=0
   .rw [if_pos ⟨q,step_all s0 hj q⟩,if_pos q]
   .rw [if_neg λy=>q y.1,if_neg q]
theorem sR_cnt (h st:Nat)(s0:0<st):sliceRange 0 h st=(List.range (rngN 0 h st)).map λk=>k*st:=by
 unfold sliceRange rngN Builtin.Range.rangeSize
 have hs:(st:Int) > 0:=by lia
 simp only[hs,if_true]
 by_cases hh:(0:Int)<h
 .simp only[hh,if_true]
  have e:((h:Int)-0+st-1) / st=((h:Int)-0-1) / st+1:=by
   rw[show (h:Int)-0+st-1=((h:Int)-0-1)+1*st by lia,Int.add_mul_ediv_right _ _ (by lia)]
  rw[e]
  refine map_congr_left λk _=>?_
  rw[Int.zero_add,Int.mul_comm]
  exact_mod_cast rfl
 .simp only[hh,if_false]
  rfl
theorem fm_some {α β:Type}{f:α->Option β}{g:α->β}:∀{js:List α},(∀j∈js,f j=some (g j))->js.filterMap f=js.map g
 | [],_=>rfl
 |j::js,h=>by
  rw[filterMap_cons_some (h j mem_cons_self),fm_some λk hk=>h k (mem_cons_of_mem _ hk),map_cons]
theorem stepG_tab {β:Type}{h st:Nat}{f:Nat->β}(s0:0<st):stepG (tab h f) st=tab (rngN 0 h st) λk=>f (k*st):=by
 unfold stepG
 rw[tab_len,sR_cnt h st s0]
 rw[List.filterMap_map]
 refine fm_some λk hk=>?_
 exact tab_get (step_lt s0 (mem_range.mp hk))
theorem rngN_one {h:Nat}:rngN 0 h (1:Nat)=h:=nat_eq_of_lt λi=>by
 rw[rngN_lt (by decide)]
 simp
abbrev s_thinned:Stmt:=top 28
theorem sc_thinned:FnScope ["sheet","k"] ["sheet","k"] (defScope s_thinned):=by walk_at "S"
def sp_thinned:DSp:=λds P=>∃(α:Type) (g:α->D) (h w k:Nat) (e:Nat->Nat->α),ds=[.lst (shV g h w e),.int k]/\k<=6/\h<=1000/\w<=1000/\P (.nl (shT g (rngN 0 h (2^k:Nat)) (rngN 0 w (2^k:Nat)) λi j=>e (i*2^k) (j*2^k)))
theorem ok_thinned {f:Addr}{fd:FuncData}(Df:DefAt K mg "thinned" s_thinned f fd)(B:BltV mg)(KV:KitV K):
  Cal P w K mg base "thinned" 1 ["sheet","k"] (spV K 2 sp_thinned):=by
 refine CalV.of Df sc_thinned (by walk_at "b") rfl (λc A o s H E hr=>⟨_,_,(pss_one (ps_ret (pe_comp rfl (pi_list (pe_step (pv 0) (pe_op op_shl pe_int (pv 1)))) (show BlkScope (defScope s_thinned) _ from⟨rfl,by decide +kernel,by decide +kernel,by decide +kernel⟩) (N:=["row","k"]) (ix:=[none,some 1]) (show CapOf _ _ _ _ from⟨⟨rfl,rfl,.inl rfl⟩,trivial⟩) (λ_ _ _=>(pg_name (i:=0) (show List.Nodup (["row","k"]:List Str) by decide +kernel) rfl (Or.inl rfl))) (λ_ _ _=>(pe_step (pv 0) (pe_op op_shl pe_int (pv 1))))))),
  (sS_ret (sO_comp (sI_list (sF_o (sO_slSt sF_var (sB_f (sF_op oS_i (sB_f sF_int) sB_var))))) sG_name (sO_slSt sF_var (sB_f (sF_op oS_i (sB_f sF_int) sB_var))))),?_⟩)
 rintro ds Pr ⟨α,g,h,w,k,e,rfl,k6,hh,hw,q⟩
 have hp:(1:Int)*2^((k:Int)).toNat=((2^k:Nat):Int):=by simp
 have hp0:0<2^k:=pow_pos (by decide)
 fin2
 rw[hp]
 refine⟨⟨by lia,by lia⟩,by exact_mod_cast hp0,?_⟩
 simp only[shV]
 rw[stepG_tab hp0]
 simp only[tab_map,OV.val]
 have hle:=rngN_le (h:=h) hp0
 refine CmpW.map (List.range (rngN 0 h (2^k:Nat))) (λi=>D.lst (tab w λj=>g (e (i*2^k) j))) (λi=>.nl (tab (rngN 0 w (2^k:Nat)) λj=>.fz (g (e (i*2^k) (j*2^k))))) (by rw[length_range];lia) (λi hi Q q=>?_) ?_
 .fin2
  rw[hp]
  refine⟨⟨by lia,by lia⟩,by exact_mod_cast hp0,?_⟩
  rw[stepG_tab hp0,tab_map]
  exact q
 .exact q
theorem gLift_off {α:Type}{z:α}{G:α->α->α->α}{h:Int}{st:Nat}{xs:List α}{p:Nat}(s0:0<st)(hh:h=0∨h=1)(hp:p%st≠0):(gLift z G h st xs).getD p z=xs.getD p z:=by
 rw[(g_all (z:=z) (G:=G) (h:=h) (st:=(st:Int)) (xs:=xs) (by lia) hh).2 p,if_neg]
 intro hm
 obtain⟨_,_,i,hi⟩:=(plc_mem (show (0:Int)<st by lia)).mp hm
 apply hp
 rcases hh with rfl |rfl
 .have:p=i*2*st:=by
   have e:(p:Int)=((i*2*st:Nat):Int):=by rw[hi,Int.zero_mul,Int.zero_add,<- mul_assoc];exact_mod_cast rfl
   exact_mod_cast e
  rw[this];exact mul_mod_left _ _
 .have:p=(1+i*2)*st:=by
   have e:(p:Int)=(((1+i*2)*st:Nat):Int):=by rw[hi,<- mul_assoc,<- Int.add_mul];exact_mod_cast rfl
   exact_mod_cast e
  rw[this];exact mul_mod_left _ _
theorem gFold_off {α:Type}{z:α}{G:Lf->α->α->α->α}{st:Nat}{p:Nat}(s0:0<st)(hp:p%st≠0):∀(gs:List Lf) (xs:List α),(∀f∈gs,f.Ok)->(gs.foldl (λxs f=>gLift z (G f) f.h st xs) xs).getD p z=xs.getD p z
 | [],_,_=>rfl
 |f::gs,xs,ok=>by
  rw[foldl_cons,gFold_off s0 hp gs _ λg hg=>ok g (mem_cons_of_mem _ hg)]
  exact gLift_off s0 (ok f mem_cons_self).h hp
theorem pow64 {k:Nat}(h:k<=6):0<2^k/\2^k<=64:=⟨pow_pos (by decide),Nat.le_trans (Nat.pow_le_pow_right (by decide) h) (by decide)⟩
theorem shT_one {α:Type}{g:α->D}{h w:Nat}{e:Nat->Nat->α}:shT g (rngN 0 h (2^0:Nat)) (rngN 0 w (2^0:Nat)) (λi j=>e (i*2^0) (j*2^0))=shT g h w e:=by
 rw[show (2^0:Nat)=1 by decide,rngN_one,rngN_one]
 simp only[Nat.mul_one]
theorem openF_low {α:Type}{z:α}{op:Nat->List α->List α}{h w:Nat}{e:Nat->Nat->α}:∀{n d:Nat},n<=d->openF z op h w n d e=e
 | 0,_,_=>rfl
 |n+1,d,hd=>by
  show (if d<=n then _ else e)=e
  rw[if_neg (by lia)]
abbrev s_opened_by:Stmt:=top 26
theorem sc_opened_by:FnScope ["lowering","wave","ladder","levels","down","sheet","k"] ["lowering","wave","ladder","levels","down"] (defScope s_opened_by):=by walk_at "S"
def sp_opened_by:DSp:=λds P=>∃(α:Type) (z:α) (g:α->D) (op:Nat->List α->List α) (x:Str) (sp:DSp) (lad:D) (h w L d:Nat) (e:Nat->Nat->α),ds=[.fn x,.lst (shV g h w e),lad,.int L,.int d]/\(x,sp)∈fnTb/\(∀k,k<L->OpOk α z g (op k) w (2^k) lad sp/\OpOk α z g (op k) h (2^k) lad sp)/\L<=6/\d<=6/\0<h/\h<=1000/\w<=1000/\P (.nl (shT g h w (openF z op h w L d e)))
theorem ok_opened_by {f:Addr}{fd:FuncData}(Df:DefAt K mg "opened_by" s_opened_by f fd)(B:BltV mg)(KV:KitV K)(c_thinned:Cal P w K mg base "thinned" 1 ["sheet","k"] (spV K 2 sp_thinned))(c_change_columns:Cal P w K mg base "change_columns" 4 ["sheet","doing","ladder","stride"] (spIO K 4 sp_change_columns))(c_change_rows:Cal P w K mg base "change_rows" 4 ["sheet","doing","ladder","stride"] (spIO K 4 sp_change_rows)):
  Cal P w K mg base "opened_by" 5 ["lowering","wave","ladder","levels","down"] (spV K 5 sp_opened_by):=by
 refine CalV.of Df sc_opened_by (by walk_at "b") rfl (λc A o s H E hr=>⟨_,_,(pss_cons (ps_set (i:=5) sc_opened_by.nd rfl (Or.inl rfl) (pe_cal c_thinned (hr.mono (by decide)) (by rfl) (pa_cons (pv 1) (pa_cons pe_int pa_nil))))
   (pss_cons (ps_for PassesOwn.never rfl (pi_rangeD rfl B.range (pa_cons (pe_op op_sub (pv 3) pe_int) (pa_cons (pe_op op_sub (pv 4) pe_int) (pa_cons (pe_un un_neg pe_int) pa_nil)))) (pg_name (i:=6) sc_opened_by.nd rfl (Or.inl rfl)) (pss_cons (ps_expr (pe_cal c_change_columns (hr.mono (by decide)) (by rfl) (pa_cons (pv 5) (pa_cons (pv 0) (pa_cons (pv 2) (pa_cons (pe_op op_shl pe_int (pv 6)) pa_nil))))))
   (pss_one (ps_expr (pe_cal c_change_rows (hr.mono (by decide)) (by rfl) (pa_cons (pv 5) (pa_cons (pv 0) (pa_cons (pv 2) (pa_cons (pe_op op_shl pe_int (pv 6)) pa_nil)))))))))
   (pss_one (ps_ret (pv 5))))),
  (sS_seq (sS_set (sO_call (sAF_cons sF_var (sAF_cons sF_int sAF_nil))))
   (sS_seq (sS_for (sI_rngD (sAB_cons (sB_f (sF_op oS_i0 sB_var (sB_f sF_int))) (sAB_cons (sB_f (sF_op oS_i0 sB_var (sB_f sF_int))) (sAB_cons (sB_f (sF_neg (sB_f sF_int))) sAB_nil)))) sG_name (sS_seq (sS_callIO (sAF_cons sF_var (sAF_cons sF_var (sAF_cons (sF_op oS_i (sB_f sF_int) sB_var) sAF_nil))))
   (sS_callIO (sAF_cons sF_var (sAF_cons sF_var (sAF_cons (sF_op oS_i (sB_f sF_int) sB_var) sAF_nil))))))
   sS_retV)),?_⟩)
 rintro ds Pr ⟨α,z,g,op,x,sp,lad,h,w,L,d,e,rfl,hm,ok,l6,d6,h0,hh,hw,k⟩
 gn_on
 refine⟨α,g,h,w,0,e,rfl,by lia,hh,hw,?_⟩
 rw[shT_one]
 gp_on
 fin2
 refine⟨⟨by lia,by lia,by lia,by lia⟩,?_⟩
 rw[show ((L:Int)-1-((d:Int)-1)).toNat=L-d by lia]
 refine⟨λn M=>n<=L-d/\∃o e',M=[vD (.fn x),vD (.lst (shV g h w e)),vD lad,vI L,vI d,some (.own (.nl (shT g h w e'))),o]/\openF z op h w (L-n) d e'=openF z op h w L d e,⟨zero_le _,none,e,rfl,rfl⟩,?_,?_⟩
 .rintro n d' M hd ⟨hn,o,e',rfl,he⟩
  obtain⟨hi,rfl⟩:=rng_inv hd
  obtain⟨m,hm'⟩:∃m,L-n=m+1:=⟨L-n-1,by lia⟩
  have hmL:m<L:=by lia
  obtain⟨p0,p1⟩:=pow64 (show m<=6 by lia)
  have hk:(L:Int)-1+(n:Int) * -1=(m:Int):=by lia
  have hp:(1:Int)*2^((m:Int)).toNat=((2^m:Nat):Int):=by simp
  rw[hk]
  gn_on
  rw[hp]
  refine⟨⟨by omega,by lia⟩,α,z,g,op m,x,sp,lad,h,w,2^m,_,rfl,rfl,hm,(ok m hmL).2,p0,p1,h0,hh,hw,?_⟩
  gp_on
  fin2
  rw[hp]
  refine⟨⟨by omega,by lia⟩,α,z,g,op m,x,sp,lad,h,w,2^m,_,rfl,rfl,hm,(ok m hmL).1,p0,p1,hh,?_⟩
  refine⟨hi,_,_,rfl,?_⟩
  rw[<- he,hm',show L-(n+1)=m by omega]
  show _=if d<=m then _ else _
  rw[if_pos (by lia)]
 .rintro M ⟨_,o,e',rfl,he⟩
  rw[rng_len]at he
  fin2
  rw[openF_low (by lia)]at he
  rw[he]
  exact k
theorem spans_ok {fs:List Lf}{st n:Nat}(ok:∀f∈fs,f.Ok)(s0:0<st)(s1:st<=64)(hn:n<=1000):OpOk Sp2 (0,0) spD (gLower (0,0) sDown fs st) n st (ladD fs) sp_lowered_spans where
 run:=λr hr Q q=>⟨r,fs,st,rfl,⟨ok,by lia,by lia,by lia⟩,q⟩
 len:=λr hr=>by rw[gLower_len];exact hr
 off:=λr i hr hi hm=>gFold_off (z:=((0,0):Sp2)) (G:=sDown) s0 hm fs.reverse r λf hf=>ok f (mem_reverse.mp hf)
 lf:=λx=>lf_spD
abbrev s_opened_spans:Stmt:=top 27
theorem sc_opened_spans:FnScope ["sheet","ladder","levels","down"] ["sheet","ladder","levels","down"] (defScope s_opened_spans):=by walk_at "S"
def sp_opened_spans:DSp:=λds P=>∃(h w:Nat) (e:Nat->Nat->Sp2) (fs:List Lf) (L d:Nat),ds=[.lst (shV spD h w e),ladD fs,.int L,.int d]/\(∀f∈fs,f.Ok)/\L<=6/\d<=6/\0<h/\h<=1000/\w<=1000/\P (.nl (shT spD h w (openF (0,0) (λk=>gLower (0,0) sDown fs (2^k:Nat)) h w L d e)))
theorem ok_opened_spans {f:Addr}{fd:FuncData}{T:Addr}{tk0:Tok}(Df:DefAtD K mg "opened_spans" s_opened_spans f fd T #[.int 0 tk0])(B:BltV mg)(KV:KitV K)(n_lowered_spans:NsOf K mg "lowered_spans")(c_opened_by:Cal P w K mg base "opened_by" 5 ["lowering","wave","ladder","levels","down"] (spV K 5 sp_opened_by)):
  CalD P w K mg base "opened_spans" 6 ["sheet","ladder","levels","down"] (spV K 4 sp_opened_spans) [.int 0]:=by
 refine CalVD.of (ds:=[.int 0 tk0]) Df sc_opened_spans (λ_ _ _ _ _ _ us hl=>match us,hl with | [_,_,_,_],_=>⟨_,rfl,rfl⟩) (λ_ _ _ _ _ _ us hl=>by have hl':us.length=3:=(by simpa using hl);exact match us,hl' with | [_,_,_],_=>⟨_,rfl,rfl⟩) (.cons ⟨_,rfl⟩ (.nil)) rfl (λc A o s H E hr=>⟨_,_,(pss_one (ps_ret (pe_cal c_opened_by (hr.mono (by decide)) (by rfl) (pa_cons (pe_fn (by rfl) n_lowered_spans) (pa_cons (pv 0) (pa_cons (pv 1) (pa_cons (pv 2) (pa_cons (pv 3) pa_nil)))))))),
  (sS_ret (sO_call (sAF_cons (sF_fn n_lowered_spans) (sAF_cons sF_var (sAF_cons sF_var (sAF_cons sF_var (sAF_cons sF_var sAF_nil))))))),?_⟩)
 rintro ds Pr ⟨h,w,e,fs,L,d,rfl,ok,l6,d6,h0,hh,hw,k⟩
 fin2
 refine⟨Sp2,(0,0),spD,λk=>gLower (0,0) sDown fs (2^k:Nat),"lowered_spans",sp_lowered_spans,ladD fs,h,w,L,d,e,rfl,by simp[fnTb],λk hk=>?_,l6,d6,h0,hh,hw,k⟩
 obtain⟨p0,p1⟩:=pow64 (show k<=6 by lia)
 exact⟨spans_ok ok p0 p1 hw,spans_ok ok p0 p1 hh⟩
def hl (s:Int)(h:List Bool):List Int:=((List.range h.length).filter λk=>h.getD k false).map λ(k:Nat)=>(k:Int)*s
def nx1 (hf:Int)(h:List Bool)(k:Nat):Bool:=h.getD k false || (decide (k+1<h.length) && h.getD (k+1) false && decide (((k+1:Nat):Int)%2=hf)) || (decide (0<k) && h.getD (k-1) false && decide (((k-1:Nat):Int)%2=hf))
def nxt (hf:Int)(h:List Bool):List Bool:=(List.range h.length).map (nx1 hf h)
theorem nxt_len {hf:Int}{h:List Bool}:(nxt hf h).length=h.length:=by simp[nxt]
theorem nxt_get {hf:Int}{h:List Bool}{k:Nat}(hk:k<h.length):(nxt hf h).getD k false=nx1 hf h k:=by
 unfold nxt;simp[hk]
theorem hl_mem {s:Int}{h:List Bool}{x:Int}:x∈hl s h↔∃k:Nat,k<h.length/\h.getD k false=true/\x=(k:Int)*s:=by
 unfold hl
 simp only[mem_map,mem_filter,mem_range]
 constructor
 .rintro ⟨k,⟨h1,h2⟩,rfl⟩;exact⟨k,h1,h2,rfl⟩
 .rintro ⟨k,h1,h2,rfl⟩;exact⟨k,⟨h1,h2⟩,rfl⟩
theorem hl_sorted {s:Int}(hs:0<s)(h:List Bool):(hl s h).Pairwise (· < ·):=by
 unfold hl
 refine List.Pairwise.map _ (λa b hab=>?_) (pairwise_lt_range.filter _)
 exact Int.mul_lt_mul_of_pos_right (by lia) hs
theorem hl_len {s:Int}{h:List Bool}:(hl s h).length<=h.length:=by
 unfold hl
 rw[length_map]
 exact Nat.le_trans (length_filter_le _ _) (by simp)
theorem sorted_ext:∀(l m:List Int),l.Pairwise (· < ·)->m.Pairwise (· < ·)->(∀x,x∈l↔x∈m)->l=m
 | [],[],_,_,_=>rfl
 | [],y::m,_,_,h=>by have:=(h y).mpr mem_cons_self;cases this
 |x::l,[],_,_,h=>by have:=(h x).mp mem_cons_self;cases this
 |x :: l,y::m,hl,hm,h=>by
  obtain⟨l1,l2⟩:=List.pairwise_cons.mp hl
  obtain⟨m1,m2⟩:=List.pairwise_cons.mp hm
  have e:x=y:=by
   rcases mem_cons.mp ((h x).mp mem_cons_self) with z |z
   .exact z
   .rcases mem_cons.mp ((h y).mpr mem_cons_self) with z' |z'
    .exact z'.symm
    .have a:=m1 x z;have b:=l1 y z';lia
  subst e
  rw[sorted_ext l m l2 m2 λz=>?_]
  constructor
  .intro hz
   rcases mem_cons.mp ((h z).mp (mem_cons_of_mem _ hz)) with e |e
   .have:=l1 z hz;lia
   .exact e
  .intro hz
   rcases mem_cons.mp ((h z).mpr (mem_cons_of_mem _ hz)) with e |e
   .have:=m1 z hz;lia
   .exact e
theorem nodup_sub:∀(l m:List Int),l.Nodup->(∀x∈l,x∈m)->l.length<=m.length
 | [],_,_,_=>zero_le _
 |x::l,m,hn,h=>by
  obtain⟨n1,n2⟩:=nodup_cons.mp hn
  have hx:=h x mem_cons_self
  have:=nodup_sub l (m.erase x) n2 λy hy=>(List.mem_erase_of_ne (λe=>n1 (by rw[<- e];exact hy))).mpr (h y (mem_cons_of_mem _ hy))
  rw[List.length_erase_of_mem hx]at this
  have:0<m.length:=List.length_pos_of_mem hx
  simp only[length_cons]
  lia
theorem strict_of {l:List Int}(hn:l.Nodup)(hp:l.Pairwise (·<=·)):l.Pairwise (· < ·):=by
 have:=List.Pairwise.and hp hn
 exact this.imp λh=>by have:=h.1;have:=h.2;lia
def extN (hf m s x:Int):List Int:=if x / s%2=hf/\¬ (x-s<0/\m<=x+s) then [nbL x m s,nbR x m s] else []
theorem ext_mem {hf m s:Int}{h:List Bool}(hs:0<s)(hm:∀k:Nat,k<h.length↔(k:Int)*s<m){k:Nat}(hk:k<h.length){x:Int}:
  x∈extN hf m s ((k:Int)*s)↔(k:Int)%2=hf/\((0<k/\x=((k-1:Nat):Int)*s)∨(k+1<h.length/\x=((k+1:Nat):Int)*s)):=by
 have e1:(k:Int)*s / s=k:=Int.mul_ediv_cancel _ (by lia)
 have e2:((k:Int)*s-s<0)↔k=0:=by
  constructor
  .intro z
   rcases Nat.eq_zero_or_pos k with e |e
   .exact e
   .have:1*s<=(k:Int)*s:=Int.mul_le_mul_of_nonneg_right (by lia) (by lia)
    lia
  .rintro rfl;simp;omega
 have e3:(m<=(k:Int)*s+s)↔¬ k+1<h.length:=by
  rw[hm (k+1)]
  have:((k+1:Nat):Int)*s=(k:Int)*s+s:=by rw[Int.natCast_add,Int.add_mul];simp
  rw[this];lia
 have e4:((k+1:Nat):Int)*s=(k:Int)*s+s:=by rw[Int.natCast_add,Int.add_mul];simp
 have e5:0<k->((k-1:Nat):Int)*s=(k:Int)*s-s:=λz=>by
  rw[show ((k-1:Nat):Int)=(k:Int)-1 by lia,sub_mul];simp
 unfold extN nbL nbR
 rw[e1]
 by_cases c1:(k:Int)%2=hf
 .by_cases c2:k=0
  .by_cases c3:k+1<h.length
   .rw [if_pos ⟨c1,λz=>e3.mp z.2 c3⟩,if_pos (e2.mpr c2),if_neg (λz=>e3.mp z c3)]
    simp only[mem_cons,not_mem_nil,or_false,or_self,e4]
    constructor
    .intro z;exact⟨c1,.inr ⟨c3,z⟩⟩
    .rintro ⟨_,⟨z,_⟩ | ⟨_,z⟩⟩
     .lia
     .exact z
   .rw [if_neg (λz=>z.2 ⟨e2.mpr c2,e3.mpr c3⟩)]
    constructor
    .intro z;cases z
    .rintro ⟨_,⟨z,_⟩ | ⟨z,_⟩⟩
     .lia
     .exact absurd z c3
  .rw [if_pos ⟨c1,λz=>c2 (e2.mp z.1)⟩,if_neg (λz=>c2 (e2.mp z))]
   by_cases c3:k+1<h.length
   .rw [if_neg (λz=>e3.mp z c3)]
    simp only[mem_cons,not_mem_nil,or_false,e4,e5 (by lia)]
    constructor
    .rintro (z |z)
     .exact ⟨c1,.inl ⟨by lia,z⟩⟩
     .exact ⟨c1,.inr ⟨c3,z⟩⟩
    .rintro ⟨_,⟨_,z⟩ | ⟨_,z⟩⟩
     .exact .inl z
     .exact .inr z
   .rw [if_pos (e3.mpr c3)]
    simp only[mem_cons,not_mem_nil,or_false,or_self,e5 (show 0<k by lia)]
    constructor
    .intro z;exact⟨c1,.inl ⟨by lia,z⟩⟩
    .rintro ⟨_,⟨_,z⟩ | ⟨z,_⟩⟩
     .exact z
     .exact absurd z c3
 .rw [if_neg (λz=>c1 z.1)]
  constructor
  .intro z;cases z
  .rintro ⟨z,_⟩;exact absurd z c1
theorem found_mem {hf m s:Int}{h:List Bool}(hs:0<s)(hm:∀k:Nat,k<h.length↔(k:Int)*s<m){x:Int}:x∈hl s h++(hl s h).flatMap (extN hf m s)↔x∈hl s (nxt hf h):=by
 rw[mem_append,mem_flatMap,hl_mem,hl_mem]
 constructor
 .rintro (⟨k,h1,h2,rfl⟩ | ⟨y,hy,hx⟩)
  .refine ⟨k,by rw[nxt_len];exact h1,?_,rfl⟩
   rw[nxt_get h1];unfold nx1;rw[h2];rfl
  .obtain ⟨k,h1,h2,rfl⟩:=hl_mem.mp hy
   obtain⟨c1,⟨c2,rfl⟩ | ⟨c2,rfl⟩⟩:=(ext_mem hs hm h1).mp hx
   .refine ⟨k-1,by rw[nxt_len];lia,?_,rfl⟩
    rw[nxt_get (by lia)]
    unfold nx1
    rw[show k-1+1=k by lia,decide_eq_true h1,h2,decide_eq_true c1]
    simp
   .refine ⟨k+1,by rw[nxt_len];omega,?_,rfl⟩
    rw[nxt_get c2]
    unfold nx1
    rw[show k+1-1=k by lia,h2,decide_eq_true c1,decide_eq_true (show 0<k+1 by lia)]
    simp
 .rintro ⟨k,h1,h2,rfl⟩
  rw[nxt_len]at h1
  rw[nxt_get h1]at h2
  unfold nx1 at h2
  simp only[or_eq_true,and_eq_true,decide_eq_true_eq]at h2
  rcases h2 with (h2 | ⟨⟨h2,h3⟩,h4⟩) | ⟨⟨h2,h3⟩,h4⟩
  .exact .inl ⟨k,h1,h2,rfl⟩
  .exact .inr ⟨_,hl_mem.mpr ⟨k+1,h2,h3,rfl⟩,(ext_mem hs hm h2).mpr ⟨h4,.inl ⟨by lia,by rw[show k+1-1=k by lia]⟩⟩⟩
  .exact .inr ⟨_,hl_mem.mpr ⟨k-1,by lia,h3,rfl⟩,(ext_mem hs hm (by lia)).mpr ⟨h4,.inr ⟨by lia,by rw[show k-1+1=k by lia]⟩⟩⟩
def hsK (fs:List Lf)(h:List Bool)(i:Nat):List Bool:=(fs.take i).foldl (λh f=>nxt f.h h) h
theorem hsK_len {fs:List Lf}:∀{i:Nat} {h:List Bool},(hsK fs h i).length=h.length:=by
 have:∀(gs:List Lf) (h:List Bool),(gs.foldl (λh f=>nxt f.h h) h).length=h.length:=λgs=>by
  induction gs with
  |nil=>exact λ_=>rfl
  |cons g gs ih=>exact λh=>by rw[foldl_cons,ih,nxt_len]
 exact λ{i h}=>this _ h
theorem hsK_succ {fs:List Lf}{h:List Bool}{i:Nat}{f:Lf}(hf:fs[i]?=some f):hsK fs h (i+1)=nxt f.h (hsK fs h i):=by
 obtain⟨hi,e⟩:=List.getElem?_eq_some_iff.mp hf
 unfold hsK
 rw[take_succ_eq_append_getElem hi,e,foldl_append]
 rfl
def dk1 (hf t:Int)(h:List Bool)(k:Nat):Bool:=h.getD k false || (decide (k+1<h.length) && h.getD (k+1) false && decide (((k+1:Nat):Int)%2=hf) && decide (((k+1:Nat):Int)<t)) || (decide (0<k) && h.getD (k-1) false && decide (((k-1:Nat):Int)%2=hf) && decide (((k-1:Nat):Int)<t))
def dK (hf t:Int)(h:List Bool):List Bool:=(List.range h.length).map (dk1 hf t h)
theorem ixN_is {n:Nat}{i:Int}{j:Nat}(h:i=j)(hj:j<n):ixN n i=some j:=by
 subst h
 unfold ixN
 rw[if_pos (by lia),if_pos (by lia)]
 simp
theorem atI_neg1 {α:Type}(l:List α)(x:α):atI (l++[x]) (-1)=some x:=by
 unfold atI ixN
 rw[if_neg (by decide),if_pos (by simp;lia)]
 have:((-1:Int)+((l++[x]).length:Nat)).toNat=l.length:=by simp;lia
 show (l++[x])[((-1:Int)+((l++[x]).length:Nat)).toNat]?=some x
 rw[this];simp
abbrev s_with_neighbours:Stmt:=top 21
theorem sc_with_neighbours:FnScope ["wanted","half","many","stride","found","at","pair"] ["wanted","half","many","stride"] (defScope s_with_neighbours):=by walk_at "S"
def sp_with_neighbours:DSp:=λds P=>∃(h:List Bool) (hf m s:Int),ds=[iL (hl s h),.int hf,.int m,.int s]/\(0<s/\s<=64)/\h.length<=64/\(∀k:Nat,k<h.length↔(k:Int)*s<m)/\P (iO (hl s (nxt hf h)))
theorem ok_with_neighbours {f:Addr}{fd:FuncData}(Df:DefAt K mg "with_neighbours" s_with_neighbours f fd)(B:BltV mg)(KV:KitV K)(c_neighbours:Cal P w K mg base "neighbours" 1 ["at","many","stride"] (spV K 3 sp_neighbours)):
  Cal P w K mg base "with_neighbours" 2 ["wanted","half","many","stride"] (spV K 4 sp_with_neighbours):=by
 refine CalV.of Df sc_with_neighbours (by walk_at "b") rfl (λc A o s H E hr=>⟨_,_,(pss_cons (ps_set (i:=4) sc_with_neighbours.nd rfl (Or.inl rfl) (pe_callTy call_listS (by rfl) B.list PyProof.Rows.boot_list (pa_cons (pv 0) pa_nil)))
   (pss_cons (ps_for PassesOwn.never rfl (pi_list (pv 0)) (pg_name (i:=5) sc_with_neighbours.nd rfl (Or.inl rfl)) (pss_cons (ps_set (i:=6) sc_with_neighbours.nd rfl (Or.inl rfl) (pe_cal c_neighbours (hr.mono (by decide)) (by rfl) (pa_cons (pv 5) (pa_cons (pv 2) (pa_cons (pv 3) pa_nil)))))
   (pss_one (ps_if (pw_and (pt_cmpR op_eq (pe_op op_mod (pe_op op_fdiv (pv 5) (pv 3)) pe_int) (pv 1) (nomark _)) (pw_and1 (pt_cmpR op_notN (pv 6) pe_non (nomark _)))).pt (pss_one (ps_expr (pe_bm plainAttrs_list slot_list_extend type_list_extend mt_extendS (pv 4) (pa_cons (pv 6) pa_nil)))) pss_nil))))
   (pss_one (ps_ret (pe_callB (call_sortS rfl) (by rfl) B.sorted boot_sorted (pa_cons (pe_callTy (call_setOf rfl) (by rfl) B.set PyProof.Rows.boot_set (pa_cons (pv 4) pa_nil)) pa_nil)))))),
  (sS_seq (sS_set (sO_cb cO_list (sAF_cons sF_var sAF_nil)))
   (sS_seq (sS_for (sI_list sF_var) sG_name (sS_seq (sS_set (sO_f (sF_o (sO_call (sAF_cons sF_var (sAF_cons sF_var (sAF_cons sF_var sAF_nil)))))))
   (sS_if (sT_and (sT_test (sF_op oS_eq (sB_f (sF_op oS_i (sB_f (sF_op oS_i sB_var sB_var)) (sB_f sF_int))) sB_var)) (sT_test (sF_op oS_notN sB_var (sB_f sF_non)))) (sS_ext sF_var) sS_next)))
   (sS_ret (sO_sortSet sB_var)))),?_⟩)
 rintro ds Pr ⟨h,hf,m,s,rfl,hs,h64,hm,k⟩
 simp only[iL]
 gn_on
 gp_on
 gn_on
 refine⟨λi M=>∃o5 o6,M=[vD (iL (hl s h)),vI hf,vI m,vI s,some (.own (iO (hl s h++((hl s h).take i).flatMap (extN hf m s)))),o5,o6],⟨none,none,by simp[iL,iO]⟩,?_,?_⟩
 .rintro i x M hx ⟨o5,o6,rfl⟩
  obtain⟨y,hy,rfl⟩:=mget hx
  obtain⟨hi,hye⟩:=List.getElem?_eq_some_iff.mp hy
  obtain⟨q,q1,q2,q3⟩:=hl_mem.mp (mem_of_getElem? hy)
  have q0:0<=y:=by rw[q3];exact mul_nonneg (by lia) (by lia)
  have hlen:(hl s h++((hl s h).take i).flatMap (extN hf m s)).length<=1000:=by
   have a1:(hl s h).length<=64:=Nat.le_trans hl_len h64
   have a2:∀l:List Int,(l.flatMap (extN hf m s)).length<=2*l.length:=λl=>by
    induction l with
    |nil=>exact Nat.le_refl _
    |cons z l ih=>
     rw[flatMap_cons,length_append,length_cons]
     have:(extN hf m s z).length<=2:=by unfold extN;split<;>simp
     lia
   have a3:=a2 ((hl s h).take i)
   rw[length_take]at a3
   rw[length_append]
   lia
  have etake:(hl s h).take (i+1)=(hl s h).take i++[y]:=by rw[take_succ_eq_append_getElem hi,hye]
  dsimp only
  rw[etake,List.flatMap_append,<- append_assoc]
  generalize hl s h++((hl s h).take i).flatMap (extN hf m s)=cur at hlen
  simp only[iL,iO]
  gn_on
  simp only[sp_neighbours]
  have hfl:List.flatMap (extN hf m s) [y]=extN hf m s y:=by simp
  rw[hfl]at hN
  by_cases hno:y-s<0/\m<=y+s
  .rw [if_pos hno]
   have e:extN hf m s y=[]:=by unfold extN;rw[if_neg λz=>z.2 hno]
   rw[e,append_nil]at hN
   simp only[OV.val]
   gp_on
   fin2
   refine⟨⟨hs.1,by lia⟩,?_⟩
   split<;>exact⟨_,_,rfl⟩
  .rw [if_neg hno]
   simp only[OV.val]
   gp_on
   fin2
   refine⟨⟨hs.1,by lia⟩,?_⟩
   by_cases hh:y / s%2=hf
   .rw [if_pos hh]
    have e:extN hf m s y=[nbL y m s,nbR y m s]:=by unfold extN;rw[if_pos ⟨hh,hno⟩]
    rw[e,map_append]
    exact⟨by lia,_,_,rfl⟩
   .rw [if_neg hh]
    have e:extN hf m s y=[]:=by unfold extN;rw[if_neg λz=>hh z.1]
    rw[e,append_nil]
    exact⟨_,_,rfl⟩
 .rintro M ⟨o5,o6,rfl⟩
  rw[length_map,take_length]
  dsimp only
  gp_on
  simp only[iO]
  fin2
  have key:∀ms:List Int,(∀x:Int,x∈ms↔x∈hl s h++(hl s h).flatMap (extN hf m s))->∀x,x∈ms↔x∈hl s (nxt hf h):=λms hms x=>(hms x).trans (found_mem hs.1 hm)
  have a1:(hl s h).length<=64:=Nat.le_trans hl_len h64
  have a2:∀l:List Int,(l.flatMap (extN hf m s)).length<=2*l.length:=λl=>by
   induction l with
   |nil=>exact Nat.le_refl _
   |cons z l ih=>
    rw[flatMap_cons,length_append,length_cons]
    have:(extN hf m s z).length<=2:=by unfold extN;split<;>simp
    lia
  refine⟨_,rfl,?_,λms hn hms=>?_,λms hn hms hp=>?_⟩
  .have:=a2 (hl s h)
   rw[length_append];lia
  .have:=nodup_sub ms (hl s (nxt hf h)) hn λx hx=>(key ms hms x).mp hx
   have h2:(hl s (nxt hf h)).length<=(nxt hf h).length:=hl_len
   rw[nxt_len]at h2
   lia
  .rw [sorted_ext ms (hl s (nxt hf h)) (strict_of hn hp) (hl_sorted hs.1 _) (key ms hms)]
   exact k
abbrev s_needs:Stmt:=top 22
theorem sc_needs:FnScope ["wanted","ladder","many","stride","lists","lift"] ["wanted","ladder","many","stride"] (defScope s_needs):=by walk_at "S"
def sp_needs:DSp:=λds P=>∃(h:List Bool) (fs:List Lf) (m s:Int),ds=[iL (hl s h),ladD fs,.int m,.int s]/\(∀f∈fs,f.Ok)/\fs.length<=6/\(0<s/\s<=64)/\h.length<=64/\(∀k:Nat,k<h.length↔(k:Int)*s<m)/\P (.nl ((List.range (fs.length+1)).map λi=>iO (hl s (hsK fs h i))))
theorem ok_needs {f:Addr}{fd:FuncData}(Df:DefAt K mg "needs" s_needs f fd)(B:BltV mg)(KV:KitV K)(g_HALF:∃t,mg "HALF"=some (.int 0 t))(c_with_neighbours:Cal P w K mg base "with_neighbours" 2 ["wanted","half","many","stride"] (spV K 4 sp_with_neighbours)):
  Cal P w K mg base "needs" 3 ["wanted","ladder","many","stride"] (spV K 4 sp_needs):=by
 refine CalV.of Df sc_needs (by walk_at "b") rfl (λc A o s H E hr=>⟨_,_,(pss_cons (ps_set (i:=4) sc_needs.nd rfl (Or.inl rfl) (pe_lstS (pa_cons (pe_callTy call_listS (by rfl) B.list PyProof.Rows.boot_list (pa_cons (pv 0) pa_nil)) pa_nil)))
   (pss_cons (ps_for PassesOwn.never rfl (pi_tup (pv 1)) (pg_name (i:=5) sc_needs.nd rfl (Or.inl rfl)) (pss_one (ps_expr (pe_bm plainAttrs_list PySem.F.slot_list_append PySem.F.type_list_append mt_append (pv 4) (pa_cons (pe_cal c_with_neighbours (hr.mono (by decide)) (by rfl) (pa_cons (pe_ix ix_list (pv 4) (pe_un un_neg pe_int) (λ_ _=>rfl)) (pa_cons (pe_ix ix_tup (pv 5) (pe_globI (by rfl) g_HALF) (λ_ _=>rfl)) (pa_cons (pv 2) (pa_cons (pv 3) pa_nil))))) pa_nil)))))
   (pss_one (ps_ret (pv 4))))),
  (sS_seq (sS_set (sO_lst (sAO_cons (sO_cb cO_list (sAF_cons sF_var sAF_nil)) sAO_nil)))
   (sS_seq (sS_for (sI_tup sF_var) sG_name (sS_app (sO_callB (sAB_cons (sB_op (OpF.b oF_ixL) sB_var (sB_f (sF_neg (sB_f sF_int)))) (sAB_cons (sB_op (OpF.b oF_ixT) sB_var (sB_f sF_int)) (sAB_cons sB_var (sAB_cons sB_var sAB_nil)))))))
   sS_retV)),?_⟩)
 rintro ds Pr ⟨h,fs,m,s,rfl,ok,h6,hs,h64,hm,k⟩
 simp only[iL,ladD]
 gn_on
 gp_on
 gn_on
 refine⟨λi M=>∃o5,M=[vD (iL (hl s h)),vD (ladD fs),vI m,vI s,some (.own (.nl ((List.range (i+1)).map λi=>iO (hl s (hsK fs h i))))),o5],⟨none,by simp[iL,iO,ladD,hsK]⟩,?_,?_⟩
 .rintro i x M hx ⟨o5,rfl⟩
  obtain⟨f,hf,rfl⟩:=mget hx
  have hi:=(List.getElem?_eq_some_iff.mp hf).1
  simp only[lfD,iL,ladD]
  fin2
  refine⟨by rw[length_range];lia,iL (hl s (hsK fs h i)),?_,hsK fs h i,f.h,m,s,rfl,hs,by rw[hsK_len];exact h64,λk=>by rw[hsK_len];exact hm k,by simp only[iO,OV.lf,lfs_fzI],some (.own (.fz (.tup [.int f.h,.int f.l,.int f.r,.int f.a,.int f.s]))),?_⟩
  .rw [range_succ,map_append,map_append]
   have e:OV.val (iO (hl s (hsK fs h i)))=iL (hl s (hsK fs h i)):=by simp only[iO,iL,OV.val,OV.vals_eq,map_map,Function.comp_def]
   simp only[map_cons,map_nil,e]
   exact atI_neg1 _ _
  .rw [range_succ (n:=i+1),map_append,map_cons,map_nil,hsK_succ hf]
 .rintro M ⟨o5,rfl⟩
  rw[length_map]
  dsimp only
  gp_on
  fin2
  exact k
theorem pow_pos' (e:Nat):(0:Int)<2^e:=by
 have h1:0<(2:Nat)^e:=pow_pos (by decide)
 have h2:((2^e:Nat):Int)=(2:Int)^e:=rfl
 lia
theorem or_nn {i j:Int}(hi:0<=i)(hj:0<=j):Builtin.bitOr i j=((i.toNat|||j.toNat:Nat):Int):=by
 unfold Builtin.bitOr
 have e1:decide (0<=Builtin.bitNot i)=false:=decide_eq_false (by unfold Builtin.bitNot;lia)
 have e2:decide (0<=Builtin.bitNot j)=false:=decide_eq_false (by unfold Builtin.bitNot;lia)
 have e3:Builtin.bitNot (Builtin.bitNot i)=i:=by unfold Builtin.bitNot;lia
 have e4:Builtin.bitNot (Builtin.bitNot j)=j:=by unfold Builtin.bitNot;lia
 unfold Builtin.bitAnd
 rw[e1,e2]
 dsimp only
 rw[e3,e4]
 unfold Builtin.bitNot
 lia
theorem and1_nn (n:Nat):Builtin.bitAnd (n:Int) 1=((n%2:Nat):Int):=by
 unfold Builtin.bitAnd
 rw[decide_eq_true (show (0:Int)<=(n:Int) by lia),decide_eq_true (show (0:Int)<=1 by decide)]
 have e:(1:Int).toNat=1:=rfl
 rw[toNat_natCast,e,Nat.and_one_is_mod]
theorem bit_zero {i j:Int}(hi:0<=i)(hj:0<=j)(L:Nat):Builtin.bitAnd (Builtin.bitOr i j / 2^L) 1=0↔i / 2^L%2=0/\j / 2^L%2=0:=by
 obtain⟨a,rfl⟩:=Int.eq_ofNat_of_zero_le hi
 obtain⟨b,rfl⟩:=Int.eq_ofNat_of_zero_le hj
 rw[or_nn hi hj]
 have e:((((a:Int).toNat|||(b:Int).toNat:Nat):Int) / 2^L)=(((a|||b) / 2^L:Nat):Int):=by
  simp
 rw[e,and1_nn]
 have t:(a|||b) / 2^L%2=0↔(a / 2^L%2=0/\b / 2^L%2=0):=by
  have h:=Nat.testBit_or a b L
  rw[Nat.testBit_eq_decide_div_mod_eq,Nat.testBit_eq_decide_div_mod_eq,Nat.testBit_eq_decide_div_mod_eq]at h
  have h':=(decide_eq_decide (p:=(a|||b) / 2^L%2=1) (q:=a / 2^L%2=1∨b / 2^L%2=1)).mp (by rw[h,Bool.decide_or])
  lia
 have c1:((a:Int) / 2^L%2=0)↔a / 2^L%2=0:=by
  have:((a:Int) / 2^L%2)=((a / 2^L%2:Nat):Int):=by simp
  clear hj e;lia
 have c2:((b:Int) / 2^L%2=0)↔b / 2^L%2=0:=by
  have:((b:Int) / 2^L%2)=((b / 2^L%2:Nat):Int):=by simp
  clear hi e;lia
 rw[c1,c2,<- t]
 lia
def lvl:Nat->Int->Int->Nat
 | 0,_,_=>0
 |n+1,i,j=>if i%2=0/\j%2=0 then 1+lvl n (i / 2) (j / 2) else 0
theorem lvl_le:∀(n:Nat) (i j:Int),lvl n i j<=n
 | 0,_,_=>Nat.le_refl _
 |n+1,i,j=>by
  unfold lvl
  split
  .have:=lvl_le n (i / 2) (j / 2);lia
  .lia
theorem div_two (i:Int)(L:Nat):i / 2^L / 2=i / 2^(L+1):=by
 rw[pow_succ,Int.ediv_ediv_of_nonneg (Int.le_of_lt (pow_pos' L))]
abbrev s_level_of:Stmt:=top 30
theorem sc_level_of:FnScope ["i","j","levels","both","level"] ["i","j","levels"] (defScope s_level_of):=by walk_at "S"
def sp_level_of:DSp:=λds P=>match ds with
 | [.int i,.int j,.int n]=>(0<=i/\0<=j/\0<=n)/\P (.fz (.int (lvl n.toNat i j)))
 |_=>False
theorem ok_level_of {f:Addr}{fd:FuncData}(Df:DefAt K mg "level_of" s_level_of f fd)(B:BltV mg)(KV:KitV K)(n_level:NsOf K mg "level"):
  Cal P w K mg base "level_of" 1 ["i","j","levels"] (spV K 3 sp_level_of):=by
 refine CalV.of Df sc_level_of (by walk_at "b") rfl (λc A o s H E hr=>⟨_,_,(pss_cons (ps_set (i:=3) sc_level_of.nd rfl (Or.inl rfl) (pe_op op_or (pv 0) (pv 1)))
   (pss_cons (ps_set (i:=4) sc_level_of.nd rfl (Or.inl rfl) pe_int)
   (pss_cons (ps_while PassesOwn.never (pw_and (pt_cmpR op_lt (pv 4) (pv 2) (nomark _)) (pw_and1 (pt_cmpR op_eq (pe_op op_and (pe_op op_shr (pv 3) (pv 4)) pe_int) pe_int (nomark _)))).pt (pss_one (ps_aug (i:=4) sc_level_of.nd rfl (Or.inl rfl) pe_int ip_add)))
   (pss_one (ps_ret (pv 4)))))),
  (sS_seq (sS_set (sO_f (sF_op oS_i0 sB_var sB_var)))
   (sS_seq (sS_set (sO_f sF_int))
   (sS_seq (sS_while (sT_and (sT_test (sF_op oS_b0 sB_var sB_var)) (sT_test (sF_op oS_eq (sB_f (sF_op oS_i0 (sB_f (sF_op oS_i sB_var sB_var)) (sB_f sF_int))) (sB_f sF_int)))) (sS_aug oS_ip (sB_f sF_int)))
   (sS_ret (sO_f sF_var))))),?_⟩)
 intro ds Pr h
 unfold sp_level_of at h
 split at h
 .rename_i i j n
  obtain⟨⟨hi,hj,hn⟩,k⟩:=h
  fin2
  refine⟨λm M=>∃L:Nat,M=[vI i,vI j,vI n,vI (Builtin.bitOr i j),vI L]/\(L:Int)<=n/\m=n.toNat-L/\lvl n.toNat i j=L+lvl (n.toNat-L) (i / 2^L) (j / 2^L),⟨_,0,rfl,by omega,rfl,by simp⟩,?_⟩
  rintro m M ⟨L,rfl,h1,rfl,h2⟩
  fin2
  by_cases hL:(L:Int)<n
  .rw [if_pos hL]
   refine⟨by (clear h1;lia),?_⟩
   rw[toNat_natCast]
   obtain⟨q,hq⟩:∃q,n.toNat-L=q+1:=⟨n.toNat-L-1,by (clear h1;lia)⟩
   rw[hq,lvl]at h2
   have hb:=bit_zero hi hj L
   by_cases hz:Builtin.bitAnd (Builtin.bitOr i j / 2^L) 1=0
   .rw [if_pos hz]
    rw[if_pos (hb.mp hz),div_two,div_two]at h2
    refine⟨n.toNat-(L+1),by lia,L+1,rfl,by lia,rfl,?_⟩
    rw[show n.toNat-(L+1)=q by lia]
    lia
   .rw [if_neg hz]
    rw[if_neg λz=>hz (hb.mpr z)]at h2
    rw[h2]at k
    exact k
  .rw [if_neg hL]
   have e:n.toNat-L=0:=by lia
   rw[e,lvl]at h2
   rw[h2]at k
   simpa using k
 .exact h.elim
def ptD (p:Int×Int):D:=.tup [.int p.1,.int p.2]
def plRow (i w:Nat):List (Int×Int):=(List.range w).map λ(j:Nat)=>((i:Int),(j:Int))
def allF (h w:Nat):List (Int×Int):=(List.range h).flatMap λi=>plRow i w
def lvF (n:Nat)(p:Int×Int):Nat:=lvl n p.1 p.2
def grp (n:Nat)(ps:List (Int×Int))(l:Nat):List (Int×Int):=ps.filter λp=>lvF n p==l
def placesF (h w n:Nat):List (Int×Int):=((List.range (n+1)).map (grp n (allF h w))).reverse.flatten
def grpO (n:Nat)(ps:List (Int×Int)):List OV:=(List.range (n+1)).map λl=>.nl ((grp n ps l).map λp=>.fz (ptD p))
theorem grpO_nil (n:Nat):grpO n []=(List.range (n+1)).map λ_=>OV.nl []:=rfl
theorem grpO_get {n l:Nat}{ps:List (Int×Int)}(h:l<=n):(grpO n ps)[l]?=some (.nl ((grp n ps l).map λp=>.fz (ptD p))):=by
 unfold grpO
 rw[getElem?_map,getElem?_range (by lia)]
 rfl
theorem grpO_snoc {n:Nat}{ps:List (Int×Int)}{p:Int×Int}:(grpO n ps).set (lvF n p) (.nl (((grp n ps (lvF n p)).map λp=>OV.fz (ptD p))++[.fz (ptD p)]))=grpO n (ps++[p]):=by
 have hle:lvF n p<=n:=lvl_le _ _ _
 refine ext_getElem? λl=>?_
 rw[getElem?_set]
 by_cases hl:l<=n
 .rw [grpO_get hl,grpO_get hl]
  have eg:grp n (ps++[p]) l=grp n ps l++(if lvF n p=l then [p] else []):=by
   unfold grp
   by_cases z:lvF n p=l<;>simp[z]
  rw[eg]
  by_cases z:lvF n p=l
  .rw [if_pos z,if_pos z,if_pos (by simp[grpO];lia),map_append,z]
   rfl
  .rw [if_neg z,if_neg z,append_nil]
 .have e1:(grpO n ps)[l]?=none:=getElem?_eq_none (by simp[grpO];lia)
  have e2:(grpO n (ps++[p]))[l]?=none:=getElem?_eq_none (by simp[grpO];lia)
  rw[if_neg (by lia),e1,e2]
theorem grp_len_le {n l:Nat}{ps:List (Int×Int)}:(grp n ps l).length<=ps.length:=length_filter_le _ _
theorem allF_succ {i w:Nat}:allF (i+1) w=allF i w++plRow i w:=by
 unfold allF
 rw[range_succ]
 simp
theorem plRow_take {i j:Nat}:plRow i (j+1)=plRow i j++[((i:Int),(j:Int))]:=by
 unfold plRow
 rw[range_succ,map_append]
 rfl
theorem plRow_len {i w:Nat}:(plRow i w).length=w:=by simp[plRow]
theorem allF_len {h w:Nat}:(allF h w).length=h*w:=by
 induction h with
 |zero=>simp[allF]
 |succ h ih=>rw[allF_succ,length_append,ih,plRow_len,succ_mul]
theorem grpO_vals {n:Nat}{ps:List (Int×Int)}:(grpO n ps).map OV.val=(List.range (n+1)).map λl=>D.lst ((grp n ps l).map ptD):=by
 unfold grpO
 rw[map_map]
 refine map_congr_left λl _=>?_
 show OV.val (.nl _)=_
 rw[OV.val,OV.vals_eq,map_map]
 rfl
theorem sum_ite (k:Nat)(g:Nat->Nat):∀m:Nat,k<m->((List.range m).map λl=>g l+if k=l then 1 else 0).sum=((List.range m).map g).sum+1
 | 0,h=>by lia
 |m + 1,h=>by
  rw[range_succ,map_append,map_append,sum_append,sum_append]
  by_cases hk:k=m
  .subst hk
   have:((List.range k).map λl=>g l+if k=l then 1 else 0)=(List.range k).map g:=by
    refine map_congr_left λl hl=>?_
    rw[if_neg (by have:=mem_range.mp hl;lia)];rfl
   rw[this]
   simp
   lia
  .rw [sum_ite k g m (by lia)]
   simp[hk]
   lia
theorem zeros:∀m:Nat,((List.range m).map λ_=>0).sum=0
 | 0=>rfl
 |m+1=>by
  rw[range_succ,map_append,sum_append,zeros m]
  rfl
theorem grp_sum (n:Nat):∀ps:List (Int×Int),((List.range (n+1)).map λl=>(grp n ps l).length).sum=ps.length
 | []=>by
  have:((List.range (n+1)).map λl=>(grp n [] l).length)=(List.range (n+1)).map λ_=>0:=map_congr_left λl _=>rfl
  exact zeros _
 |p :: ps=>by
  have e:((List.range (n+1)).map λl=>(grp n (p::ps) l).length)=(List.range (n+1)).map λl=>(grp n ps l).length+if lvF n p=l then 1 else 0:=by
   refine map_congr_left λl _=>?_
   unfold grp
   by_cases z:lvF n p=l<;>simp[z]
  rw[e,sum_ite _ _ _ (by have:=lvl_le n p.1 p.2;unfold lvF;lia),grp_sum n ps]
  rfl
theorem placesF_len {h w n:Nat}:(placesF h w n).length=h*w:=by
 unfold placesF
 rw[List.length_flatten,map_reverse,List.sum_reverse,map_map]
 exact (grp_sum n (allF h w)).trans allF_len
theorem take_rev_succ {α:Type}{xs:List (List α)}{i:Nat}{x:List α}(h:xs[i]?=some x):(xs.take (i+1)).flatten=(xs.take i).flatten++x:=by
 obtain⟨hi,e⟩:=List.getElem?_eq_some_iff.mp h
 rw[take_succ_eq_append_getElem hi,e]
 simp
abbrev s_places:Stmt:=top 31
theorem sc_places:FnScope ["high","wide","levels","groups","i","j","ordered","group"] ["high","wide","levels"] (defScope s_places):=by walk_at "S"
def sp_places:DSp:=λds P=>∃h w n:Nat,ds=[.int (h:Int),.int (w:Int),.int (n:Int)]/\(h<=100/\w<=100/\n<=100)/\P (.nl ((placesF h w n).map λp=>.fz (ptD p)))
theorem ok_places {f:Addr}{fd:FuncData}(Df:DefAt K mg "places" s_places f fd)(B:BltV mg)(KV:KitV K)(n_level:NsOf K mg "level")(c_level_of:Cal P w K mg base "level_of" 1 ["i","j","levels"] (spV K 3 sp_level_of)):
  Cal P w K mg base "places" 2 ["high","wide","levels"] (spV K 3 sp_places):=by
 refine CalV.of Df sc_places (by walk_at "b") rfl (λc A o s H E hr=>⟨_,_,(pss_cons (ps_setComp (i:=3) sc_places.nd rfl (Or.inl rfl) rfl (pi_range1 (by rfl) (by exact B.range) (pa_cons (pe_op op_add (pv 2) pe_int) pa_nil)) (show BlkScope (defScope s_places) _ from⟨rfl,by decide +kernel,by decide +kernel,by decide +kernel⟩) (N:=["level"]) (ix:=[none]) (show CapOf _ _ _ _ from trivial) (λ_ _ _=>(pg_name (i:=0) (show List.Nodup (["level"]:List Str) by decide +kernel) rfl (Or.inl rfl))) (λ_ _ _=>(pe_lstS pa_nil)))
   (pss_cons (ps_for PassesOwn.never rfl (pi_range1 (by rfl) (by exact B.range) (pa_cons (pv 0) pa_nil)) (pg_name (i:=4) sc_places.nd rfl (Or.inl rfl)) (pss_one (ps_for PassesOwn.never rfl (pi_range1 (by rfl) (by exact B.range) (pa_cons (pv 1) pa_nil)) (pg_name (i:=5) sc_places.nd rfl (Or.inl rfl)) (pss_one (ps_expr (pe_bm plainAttrs_list PySem.F.slot_list_append PySem.F.type_list_append mt_append (pe_ix ix_list (pv 3) (pe_cal c_level_of (hr.mono (by decide)) (by rfl) (pa_cons (pv 4) (pa_cons (pv 5) (pa_cons (pv 2) pa_nil)))) (λ_ _=>rfl)) (pa_cons (pe_tupS (pa_cons (pv 4) (pa_cons (pv 5) pa_nil))) pa_nil)))))))
   (pss_cons (ps_set (i:=6) sc_places.nd rfl (Or.inl rfl) (pe_lstS pa_nil))
   (pss_cons (ps_for PassesOwn.never rfl (pi_reversedL rfl B.reversed (pa_cons (pv 3) pa_nil)) (pg_name (i:=7) sc_places.nd rfl (Or.inl rfl)) (pss_one (ps_expr (pe_bm plainAttrs_list slot_list_extend type_list_extend mt_extendS (pv 6) (pa_cons (pv 7) pa_nil)))))
   (pss_one (ps_ret (pv 6))))))),
  (sS_seq (sS_set (sO_comp (sI_rng1 (sAB_cons (sB_f (sF_op oS_i0 sB_var (sB_f sF_int))) sAB_nil)) sG_name (sO_lst sAO_nil)))
   (sS_seq (sS_for (sI_rng1 (sAB_cons sB_var sAB_nil)) sG_name (sS_for (sI_rng1 (sAB_cons sB_var sAB_nil)) sG_name (sS_app2 (sB_f (sF_o (sO_call (sAF_cons sF_var (sAF_cons sF_var (sAF_cons sF_var sAF_nil)))))) (sO_f (sF_tup (sAF_cons sF_var (sAF_cons sF_var sAF_nil)))))))
   (sS_seq (sS_set (sO_lst sAO_nil))
   (sS_seq (sS_frz 3 (sS_for (sI_revL (sAF_cons sF_var sAF_nil)) sG_name (sS_ext sF_var)))
   sS_retV)))),?_⟩)
 rintro ds Pr ⟨h,w',n,rfl,⟨hh,hw,hn⟩,k⟩
 refine sSeq_k λN hN=>?_
 fin2
 refine⟨⟨by lia,by lia⟩,CmpW.rng (λ_=>.nl []) (by lia) (λi hi Q q=>by fin2;exact q) ?_⟩
 rw[show ((n:Int)+1).toNat=n+1 by lia,<- grpO_nil]
 gp_on
 gn_on
 refine⟨⟨by lia,by lia⟩,λi M=>i<=h/\∃o4 o5 o6 o7,M=[vI h,vI w',vI n,vL (grpO n (allF i w')),o4,o5,o6,o7],⟨zero_le _,_,_,_,_,rfl⟩,?_,?_⟩
 .rintro i d M hd ⟨hi',o4,o5,o6,o7,rfl⟩
  obtain⟨hi,rfl⟩:=rng_inv hd
  rw[toNat_natCast]at hi
  fin2
  refine⟨⟨by lia,by lia⟩,λj M=>∃o5,M=[vI h,vI w',vI n,vL (grpO n (allF i w'++plRow i j)),vI (0+(i:Int)*1),o5,o6,o7],⟨o5,by simp[plRow]⟩,?_,?_⟩
  .rintro j e M he ⟨o5,rfl⟩
   obtain⟨hj,rfl⟩:=rng_inv he
   rw[toNat_natCast]at hj
   rw[show 0+(i:Int)*1=i by lia,show 0+(j:Int)*1=j by lia]
   fin2
   simp only[sp_level_of]
   refine⟨⟨by lia,by lia,by lia⟩,?_⟩
   fin2
   rw[toNat_natCast,toNat_natCast]
   have hle:lvl n i j<=n:=lvl_le _ _ _
   refine⟨by lia,_,grpO_get (l:=lvl n i j) hle,?_,?_⟩
   .have h1:=grp_len_le (n:=n) (l:=lvl n i j) (ps:=allF i w'++plRow i j)
    rw[length_append,allF_len,plRow_len]at h1
    have h2:i*w'<=100*100:=mul_le_mul (by lia) hw
    rw[length_map]
    lia
   .have e:=grpO_snoc (n:=n) (ps:=allF i w'++plRow i j) (p:=((i:Int),(j:Int)))
    rw[append_assoc,<- plRow_take]at e
    rw[<- e]
    exact⟨_,rfl⟩
  .rintro M ⟨o5,rfl⟩
   rw[rng_len,toNat_natCast,<- allF_succ]
   exact⟨hi,_,_,_,_,rfl⟩
 rintro M ⟨hi,o4,o5,o6,o7,rfl⟩
 rw[rng_len,toNat_natCast]
 gp_on
 gn_on
 gp_on
 gn_on
 rw[grpO_vals,<- map_reverse]
 generalize hg3:some (Sl.own (OV.fz (D.lst ((List.range (n+1)).map λl=>D.lst ((grp n (allF h w') l).map ptD)))))=o3
 refine⟨λi M=>∃o7,M=[vI h,vI w',vI n,o3,o4,o5,vL ((((((List.range (n+1)).map (grp n (allF h w'))).reverse).take i).flatten).map λp=>.fz (ptD p)),o7],?_,?_,?_⟩
 .exact ⟨_,rfl⟩
 .rintro i d M hd ⟨o7,rfl⟩
  obtain⟨l,hl,rfl⟩:=mget hd
  have hx:(((List.range (n+1)).map (grp n (allF h w'))).reverse)[i]?=some (grp n (allF h w') l):=by
   rw[<- map_reverse,getElem?_map,hl]
   rfl
  dsimp only
  rw[take_rev_succ hx]
  have hlen:((((List.range (n+1)).map (grp n (allF h w'))).reverse.take i).flatten).length+(grp n (allF h w') l).length<=10000:=by
   rw[<- length_append,<- take_rev_succ hx]
   have h1:((((List.range (n+1)).map (grp n (allF h w'))).reverse.take (i+1)).flatten).length<=(placesF h w' n).length:=by
    unfold placesF
    conv=>rhs;rw[<- take_append_drop (i+1) ((List.range (n+1)).map (grp n (allF h w'))).reverse,List.flatten_append,length_append]
    lia
   rw[placesF_len]at h1
   have h2:h*w'<=100*100:=mul_le_mul hh hw
   lia
  fin2
  refine⟨by lia,?_⟩
  rw[map_map,map_append]
  exact⟨_,rfl⟩
 .rintro M ⟨o7,rfl⟩
  rw[length_map,length_reverse,length_range,take_of_length_le (by simp)]
  gp_on
  fin2
  exact k
def keyF (n:Nat)(p:Int×Int):List Int:=[0-(lvF n p:Int),p.1,p.2]
def keyLt (n:Nat)(p q:Int×Int):Prop:=HT.lexLt (keyF n p) (keyF n q)=true
theorem keyLt_of_lv {n:Nat}{p q:Int×Int}(h:lvF n q<lvF n p):keyLt n p q:=by
 unfold keyLt keyF
 rw[HT.lexLt_cons,if_neg (by lia)]
 exact decide_eq_true (by lia)
theorem keyLt_of_row {n:Nat}{p q:Int×Int}(h:lvF n p=lvF n q)(hr:p.1<q.1∨(p.1=q.1/\p.2<q.2)):keyLt n p q:=by
 unfold keyLt keyF
 rw[HT.lexLt_cons,if_pos (by lia),HT.lexLt_cons]
 rcases hr with hr | ⟨h1,h2⟩
 .rw [if_neg (by lia)];exact decide_eq_true hr
 .rw [if_pos h1,HT.lexLt_cons,if_neg (by lia)];exact decide_eq_true h2
def rowLt (p q:Int×Int):Prop:=p.1<q.1∨(p.1=q.1/\p.2<q.2)
theorem mem_row {i w:Nat}{p:Int×Int}:p∈plRow i w↔p.1=i/\0<=p.2/\p.2<w:=by
 unfold plRow
 rw[mem_map]
 constructor
 .rintro ⟨j,hj,rfl⟩
  have:=mem_range.mp hj
  exact⟨rfl,by show (0:Int)<=(j:Int);lia,by show (j:Int)<w;lia⟩
 .rintro ⟨h1,h2,h3⟩
  exact⟨p.2.toNat,mem_range.mpr (by lia),Prod.ext h1.symm (by show ((p.2.toNat:Nat):Int)=p.2;lia)⟩
theorem mem_all {h w:Nat}{p:Int×Int}:p∈allF h w↔(0<=p.1/\p.1<h)/\0<=p.2/\p.2<w:=by
 unfold allF
 rw[mem_flatMap]
 constructor
 .rintro ⟨i,hi,hp⟩
  have:=mem_range.mp hi
  obtain⟨h1,h2⟩:=mem_row.mp hp
  exact⟨by lia,h2⟩
 .rintro ⟨h1,h2⟩
  exact⟨p.1.toNat,mem_range.mpr (by omega),mem_row.mpr ⟨by lia,h2⟩⟩
theorem row_pw {i w:Nat}:(plRow i w).Pairwise rowLt:=by
 unfold plRow
 rw[List.pairwise_map]
 exact List.Pairwise.imp (λ{a b} hab=>.inr ⟨rfl,by show (a:Int)<(b:Int);lia⟩) (pairwise_lt_range)
theorem all_pw {w:Nat}:∀h:Nat,(allF h w).Pairwise rowLt
 | 0=>by simp[allF]
 |h+1=>by
  rw[allF_succ,pairwise_append]
  refine⟨all_pw h,row_pw,λp hp q hq=>.inl ?_⟩
  have h1:=(mem_all.mp hp).1
  have h2:=(mem_row.mp hq).1
  lia
theorem placesF_pw {h w n:Nat}:(placesF h w n).Pairwise (keyLt n):=by
 unfold placesF
 rw[List.pairwise_flatten]
 constructor
 .intro l hl
  rw[mem_reverse,mem_map]at hl
  obtain⟨k,_,rfl⟩:=hl
  have h1:(grp n (allF h w) k).Pairwise rowLt:=(all_pw h).filter _
  refine List.Pairwise.imp_of_mem (λ{a b} ha hb hab=>keyLt_of_row ?_ hab) h1
  have e1:lvF n a=k:=by simpa using (mem_filter.mp ha).2
  have e2:lvF n b=k:=by simpa using (mem_filter.mp hb).2
  rw[e1,e2]
 .rw [List.pairwise_reverse,List.pairwise_map]
  refine List.Pairwise.imp (λ{a b} hab x hx y hy=>keyLt_of_lv ?_) (pairwise_lt_range)
  have e1:lvF n x=b:=by simpa using (mem_filter.mp hx).2
  have e2:lvF n y=a:=by simpa using (mem_filter.mp hy).2
  lia
theorem placesF_mem {h w n:Nat}{p:Int×Int}(hp:p∈placesF h w n):(0<=p.1/\p.1<h)/\0<=p.2/\p.2<w:=by
 obtain⟨l,hl,hp⟩:=mem_flatten.mp hp
 rw[mem_reverse,mem_map]at hl
 obtain⟨k,_,rfl⟩:=hl
 exact mem_all.mp (mem_filter.mp hp).1
abbrev hdD (h w L n:Nat)(fs:List Lf):D:=.tup [.int h,.int w,.int L,.int n,ladD fs]
def sp_head_places:DSp:=λds P=>∃(h w L n:Nat) (fs:List Lf),ds=[hdD h w L n fs]/\(h<=100/\w<=100/\L<=100)/\P (.nl ((placesF h w L).map λp=>.fz (ptD p)))
abbrev s_head_places:Stmt:=top 37
theorem sc_head_places:FnScope ["head"] ["head"] (defScope s_head_places):=by walk_at "S"
theorem ok_head_places {f:Addr}{fd:FuncData}(Df:DefAt K mg "head_places" s_head_places f fd)(B:BltV mg)(KV:KitV K)(g_HIGH:∃t,mg "HIGH"=some (.int 0 t))(g_WIDE:∃t,mg "WIDE"=some (.int 1 t))(g_LEVELS:∃t,mg "LEVELS"=some (.int 2 t))(c_places:Cal P w K mg base "places" 2 ["high","wide","levels"] (spV K 3 sp_places)):
  Cal P w K mg base "head_places" 3 ["head"] (spV K 1 sp_head_places):=by
 refine CalV.of Df sc_head_places (by walk_at "b") rfl (λc A o s H E hr=>⟨_,_,(pss_one (ps_ret (pe_cal c_places (hr.mono (by decide)) (by rfl) (pa_cons (pe_ix ix_tup (pv 0) (pe_globI (by rfl) g_HIGH) (λ_ _=>rfl)) (pa_cons (pe_ix ix_tup (pv 0) (pe_globI (by rfl) g_WIDE) (λ_ _=>rfl)) (pa_cons (pe_ix ix_tup (pv 0) (pe_globI (by rfl) g_LEVELS) (λ_ _=>rfl)) pa_nil)))))),
  (sS_ret (sO_call (sAF_cons (sF_opF oF_ixT sF_var sF_int) (sAF_cons (sF_opF oF_ixT sF_var sF_int) (sAF_cons (sF_opF oF_ixT sF_var sF_int) sAF_nil))))),?_⟩)
 rintro ds Pr ⟨h,w,L,n,fs,rfl,hb,k⟩
 fin2
 exact⟨h,w,L,rfl,hb,k⟩
theorem keyLt_ne {n:Nat}{p q:Int×Int}(h:keyLt n p q):p≠q:=λz=>by
 subst z
 unfold keyLt keyF at h
 simp[HT.lexLt]at h
theorem placesF_nd {h w n:Nat}:(placesF h w n).Nodup:=placesF_pw.imp keyLt_ne
theorem placesF_all {h w n:Nat}{p:Int×Int}(hp:(0<=p.1/\p.1<h)/\0<=p.2/\p.2<w):p∈placesF h w n:=by
 unfold placesF
 refine mem_flatten.mpr ⟨grp n (allF h w) (lvF n p),mem_reverse.mpr (mem_map.mpr ⟨lvF n p,mem_range.mpr (Nat.lt_succ_of_le (lvl_le _ _ _)),rfl⟩),?_⟩
 exact mem_filter.mpr ⟨mem_all.mpr hp,by simp⟩
def plIx (h w L i j:Nat):Nat:=(placesF h w L).idxOf ((i:Int),(j:Int))
theorem plIx_lt {h w L i j:Nat}(hi:i<h)(hj:j<w):plIx h w L i j<(placesF h w L).length:=
 List.idxOf_lt_length_of_mem (placesF_all (p:=((i:Int),(j:Int))) ⟨⟨by dsimp only;lia,by dsimp only;lia⟩,by dsimp only;lia,by dsimp only;lia⟩)
theorem plIx_get {h w L i j:Nat}(hi:i<h)(hj:j<w):(placesF h w L)[plIx h w L i j]?=some ((i:Int),(j:Int)):=by
 rw[getElem?_eq_getElem (plIx_lt hi hj)]
 exact congrArg some (List.getElem_idxOf (plIx_lt hi hj))
theorem plIx_of {h w L i j k:Nat}(hi:i<h)(hj:j<w)(hk:(placesF h w L)[k]?=some ((i:Int),(j:Int))):plIx h w L i j=k:=by
 have h1:=plIx_get (L:=L) hi hj
 exact (List.getElem?_inj (plIx_lt hi hj) placesF_nd).mp (h1.trans hk.symm)
theorem ixN_at {n:Nat}{i:Int}(h0:0<=i)(h:i<n):ixN n i=some i.toNat:=by
 unfold ixN
 rw[if_pos h0]
 try rw[if_pos (by omega)]
def shO (h w:Nat)(e:Nat->Nat->D):List OV:=tab h λi=>.nl (tab w λj=>.fz (e i j))
theorem shO_put {h w a b:Nat}{e:Nat->Nat->D}{d:D}:(shO h w e).set a (.nl ((tab w λj=>OV.fz (e a j)).set b (.fz d)))=shO h w λi j=>if i=a/\j=b then d else e i j:=by
 unfold shO
 rw[tab_set]
 refine tab_ext λi hi=>?_
 by_cases q:i=a
 .subst q
  rw[if_pos rfl,tab_set]
  congr 1
  refine tab_ext λj hj=>?_
  dsimp only
  by_cases y:j=b
  .rw [if_pos y,if_pos ⟨rfl,y⟩]
  .rw [if_neg y,if_neg (λz=>y z.2)]
 .rw [if_neg q]
  congr 1
  refine tab_ext λj hj=>?_
  dsimp only
  rw[if_neg (λz=>q z.1)]
theorem shO_ext {h w:Nat}{e e':Nat->Nat->D}(q:∀i j,i<h->j<w->e i j=e' i j):shO h w e=shO h w e':=
 tab_ext λi hi=>congrArg OV.nl (tab_ext λj hj=>congrArg OV.fz (q i j hi hj))
theorem zipT_len {xs:List (Int×Int)}{ys:List Sp2}(e:xs.length=ys.length):(((xs.map ptD).zip (ys.map spD)).map λp=>D.tup [p.1,p.2]).length=ys.length:=by
 rw[length_map,length_zip,length_map,length_map,e,min_self]
def sp_sheet_of:DSp:=λds P=>∃(h w L n:Nat) (fs:List Lf) (vs:List Sp2),ds=[hdD h w L n fs,.lst (vs.map spD)]/\(h<=100/\w<=100/\L<=100)/\vs.length=h*w/\P (.nl (shT spD h w λi j=>vs.getD (plIx h w L i j) (0,0)))
abbrev s_sheet_of:Stmt:=top 38
theorem sc_sheet_of:FnScope ["head","spans","sheet","place","thing"] ["head","spans"] (defScope s_sheet_of):=by walk_at "S"
theorem ok_sheet_of {f:Addr}{fd:FuncData}(Df:DefAt K mg "sheet_of" s_sheet_of f fd)(B:BltV mg)(KV:KitV K)(g_WIDE:∃t,mg "WIDE"=some (.int 1 t))(g_HIGH:∃t,mg "HIGH"=some (.int 0 t))(c_head_places:Cal P w K mg base "head_places" 3 ["head"] (spV K 1 sp_head_places)):
  Cal P w K mg base "sheet_of" 4 ["head","spans"] (spV K 2 sp_sheet_of):=by
 refine CalV.of Df sc_sheet_of (by walk_at "b") rfl (λc A o s H E hr=>⟨_,_,(pss_cons (ps_setComp (i:=2) sc_sheet_of.nd rfl (Or.inl rfl) rfl (pi_range1 (by rfl) (by exact B.range) (pa_cons (pe_ix ix_tup (pv 0) (pe_globI (by rfl) g_HIGH) (λ_ _=>rfl)) pa_nil)) (show BlkScope (defScope s_sheet_of) _ from⟨rfl,by decide +kernel,by decide +kernel,by decide +kernel⟩) (N:=["i","head"]) (ix:=[none,some 0]) (show CapOf _ _ _ _ from⟨⟨rfl,rfl,.inl rfl⟩,trivial⟩) (λ_ _ _=>(pg_name (i:=0) (show List.Nodup (["i","head"]:List Str) by decide +kernel) rfl (Or.inl rfl))) (λ_ _ _=>(pe_op op_rep (pe_lstS (pa_cons pe_non pa_nil)) (pe_ix ix_tup (pv 1) (pe_globI (by rfl) g_WIDE) (λ_ _=>rfl)))))
   (pss_cons (ps_for PassesOwn.never rfl (pi_zip rfl B.zip (pa_cons (pe_cal c_head_places (hr.mono (by decide)) (by rfl) (pa_cons (pv 0) pa_nil)) (pa_cons (pv 1) pa_nil))) (pg_tup (n:=2) rfl (pgs_cons (pg_name (i:=3) sc_sheet_of.nd rfl (Or.inl rfl)) (pgs_cons (pg_name (i:=4) sc_sheet_of.nd rfl (Or.inl rfl)) pgs_nil))) (pss_one (ps_asg (pv 4) (pg_sub (pe_ix ix_list (pv 2) (pe_ix ix_tup (pv 3) pe_int (λ_ _=>rfl)) (λ_ _=>rfl)) (pe_ix ix_tup (pv 3) pe_int (λ_ _=>rfl)) set_list))))
   (pss_one (ps_ret (pv 2))))),
  (sS_seq (sS_set (sO_comp (sI_rng1 (sAB_cons (sB_op (OpF.b oF_ixT) sB_var (sB_f sF_int)) sAB_nil)) sG_name (sO_rep1 (sO_lst (sAO_cons (sO_f sF_non) sAO_nil)) (sB_op (OpF.b oF_ixT) sB_var (sB_f sF_int)))))
   (sS_seq (sS_for (sI_zip (sAF_cons (sF_o (sO_call (sAF_cons sF_var sAF_nil))) (sAF_cons sF_var sAF_nil))) (sG_tup (sGs_cons sG_name (sGs_cons sG_name sGs_nil))) (sS_put2 sF_var (sB_op (OpF.b oF_ixT) sB_var (sB_f sF_int)) (sB_op (OpF.b oF_ixT) sB_var (sB_f sF_int))))
   sS_retV)),?_⟩)
 rintro ds Pr ⟨h,w,L,n,fs,vs,rfl,hb,hl,k⟩
 obtain⟨hh,hw,hL⟩:=hb
 gn_on
 refine⟨⟨by lia,by lia⟩,?_⟩
 refine CmpW.rng (λ_=>.nl (List.replicate w (.fz .non))) (by lia) (λi _ Q q=>?_) ?_
 .fin2
  exact⟨⟨by lia,by lia⟩,q⟩
 have e0:(List.range (h:Int).toNat).map (λ_=>OV.nl (List.replicate w (.fz .non)))=shO h w λi j=>if plIx h w L i j<0 then spD (vs.getD (plIx h w L i j) (0,0)) else .non:=by
  show tab h _=_
  refine tab_ext λi _=>?_
  dsimp only
  congr 1
  have:∀j:Nat,(if plIx h w L i j<0 then spD (vs.getD (plIx h w L i j) (0,0)) else D.non) = .non:=λj=>if_neg (not_lt_zero _)
  simp only[this]
  unfold tab
  rw[List.map_const',length_range]
 rw[e0]
 gp_on
 gn_on
 refine⟨h,w,L,n,fs,rfl,⟨hh,hw,hL⟩,?_⟩
 fin2
 have ev:List.map OV.val (List.map (λp=>OV.fz (ptD p)) (placesF h w L))=(placesF h w L).map ptD:=by rw[map_map];rfl
 rw[ev]
 have hpl:=placesF_len (h:=h) (w:=w) (n:=L)
 have hzl:=zipT_len (xs:=placesF h w L) (ys:=vs) (by lia)
 refine⟨λm M=>∃o3 o4:Option Sl,M=[vD (hdD h w L n fs),vD (.lst (vs.map spD)),some (.own (.nl (shO h w λi j=>if plIx h w L i j<m then spD (vs.getD (plIx h w L i j) (0,0)) else .non))),o3,o4],⟨none,none,rfl⟩,?_,?_⟩
 .rintro m d M hd ⟨o3,o4,rfl⟩
  obtain⟨z,hz,rfl⟩:=mget hd
  rw[getElem?_zip_eq_some,getElem?_map,getElem?_map]at hz
  obtain⟨hz1,hz2⟩:=hz
  obtain⟨p,hp,hp2⟩:=map_eq_some_iff.mp hz1
  obtain⟨s,hs,hs2⟩:=map_eq_some_iff.mp hz2
  rw[<- hp2,<- hs2]
  obtain⟨⟨p0,p1⟩,p2,p3⟩:=placesF_mem (mem_of_getElem? hp)
  have hsD:vs.getD m (0,0)=s:=by rw[getD_eq_getElem?_getD,hs];rfl
  simp only[gT,gsCons,gsNil,gN,length_cons,length_nil,Nat.reduceAdd,true_and,set_cons_succ,set_cons_zero]
  unfold ptD
  fin2
  have hlen:(shO h w λi j=>if plIx h w L i j<m then spD (vs.getD (plIx h w L i j) (0,0)) else .non).length=h:=tab_len
  refine⟨p.1.toNat,tab w λj=>.fz (if plIx h w L p.1.toNat j<m then spD (vs.getD (plIx h w L p.1.toNat j) (0,0)) else .non),by rw[hlen];exact ixN_at p0 p1,tab_get (by lia),p.2.toNat,by rw[tab_len];exact ixN_at p2 p3,?_⟩
  have hpe:p=(((p.1.toNat:Nat):Int),((p.2.toNat:Nat):Int)):=Prod.ext (by dsimp only;lia) (by dsimp only;lia)
  have hput:=shO_put (h:=h) (w:=w) (a:=p.1.toNat) (b:=p.2.toNat) (e:=λi j=>if plIx h w L i j<m then spD (vs.getD (plIx h w L i j) (0,0)) else .non) (d:=spD s)
  have hst:(shO h w λi j=>if i=p.1.toNat/\j=p.2.toNat then spD s else if plIx h w L i j<m then spD (vs.getD (plIx h w L i j) (0,0)) else .non)=shO h w λi j=>if plIx h w L i j<m+1 then spD (vs.getD (plIx h w L i j) (0,0)) else .non:=shO_ext λi j hi hj=>by
   by_cases z:i=p.1.toNat/\j=p.2.toNat
   .obtain ⟨rfl,rfl⟩:=z
    have hx:=plIx_of (L:=L) (k:=m) hi hj (by rw[<- hpe];exact hp)
    rw[if_pos ⟨rfl,rfl⟩,hx,if_pos (by lia),hsD]
   .rw [if_neg z]
    have hne:plIx h w L i j≠m:=λq=>by
     have h1:=plIx_get (L:=L) hi hj
     rw[q,hp]at h1
     have h2:=Option.some.inj h1
     exact z ⟨by rw[h2];rfl,by rw[h2];rfl⟩
    by_cases y:plIx h w L i j<m
    .rw [if_pos y,if_pos (by lia)]
    .rw [if_neg y,if_neg (by lia)]
  rw[<- hst,<- hput]
  exact⟨_,_,rfl⟩
 .rintro M ⟨o3,o4,rfl⟩
  rw[hzl]
  gp_on
  fin2
  have ee:(shO h w λi j=>if plIx h w L i j<vs.length then spD (vs.getD (plIx h w L i j) (0,0)) else .non)=shT spD h w λi j=>vs.getD (plIx h w L i j) (0,0):=by
   show shO h w _=shO h w _
   refine shO_ext λi j hi hj=>?_
   have:=plIx_lt (L:=L) hi hj
   rw[if_pos (by lia)]
  rw[ee]
  exact k
def sp_level:DSp:=λds P=>∃(h w L n k:Nat) (fs:List Lf) (vs:List Sp2),ds=[hdD h w L n fs,.lst (vs.map spD),.int k]/\(∀f∈fs,f.Ok)/\(0<h/\h<=100/\w<=100/\L<=6)/\k<=L/\vs.length=h*w/\
 P (.nl (shT spD (rngN 0 h (2^k:Nat)) (rngN 0 w (2^k:Nat)) λi j=>openF (0,0) (λk=>gLower (0,0) sDown fs (2^k:Nat)) h w L k (λi j=>vs.getD (plIx h w L i j) (0,0)) (i*2^k) (j*2^k)))
abbrev s_level:Stmt:=top 41
theorem sc_level:FnScope ["head","spans","k"] ["head","spans","k"] (defScope s_level):=by walk_at "S"
theorem ok_level {f:Addr}{fd:FuncData}(Df:DefAt K mg "level" s_level f fd)(B:BltV mg)(KV:KitV K)(g_LADDER:∃t,mg "LADDER"=some (.int 4 t))(g_LEVELS:∃t,mg "LEVELS"=some (.int 2 t))(c_holds:Cal P w K mg base "holds" 1 ["one","number"] (spV K 2 sp_holds))(c_thinned:Cal P w K mg base "thinned" 1 ["sheet","k"] (spV K 2 sp_thinned))(c_opened_spans:CalD P w K mg base "opened_spans" 6 ["sheet","ladder","levels","down"] (spV K 4 sp_opened_spans) [.int 0])(c_sheet_of:Cal P w K mg base "sheet_of" 4 ["head","spans"] (spV K 2 sp_sheet_of)):
  Cal P w K mg base "level" 7 ["head","spans","k"] (spV K 3 sp_level):=by
 refine CalV.of Df sc_level (by walk_at "b") rfl (λc A o s H E hr=>⟨_,_,(pss_cons (ps_if (pt_not (pt_val (pe_cal c_holds (hr.mono (by decide)) (by rfl) (pa_cons (pe_tupS (pa_cons pe_int (pa_cons (pe_ix ix_tup (pv 0) (pe_globI (by rfl) g_LEVELS) (λ_ _=>rfl)) pa_nil))) (pa_cons (pv 2) pa_nil))))) (pss_one ps_never) pss_nil)
   (pss_one (ps_ret (pe_cal c_thinned (hr.mono (by decide)) (by rfl) (pa_cons (pe_cal c_opened_spans.cal (hr.mono (by decide)) (by rfl) (pa_cons (pe_cal c_sheet_of (hr.mono (by decide)) (by rfl) (pa_cons (pv 0) (pa_cons (pv 1) pa_nil))) (pa_cons (pe_ix ix_tup (pv 0) (pe_globI (by rfl) g_LADDER) (λ_ _=>rfl)) (pa_cons (pe_ix ix_tup (pv 0) (pe_globI (by rfl) g_LEVELS) (λ_ _=>rfl)) (pa_cons (pv 2) pa_nil))))) (pa_cons (pv 2) pa_nil)))))),
  (sS_seq (sS_if (sT_not (sT_b (sF_o (sO_call (sAF_cons (sF_tup (sAF_cons sF_int (sAF_cons (sF_opF oF_ixT sF_var sF_int) sAF_nil))) (sAF_cons sF_var sAF_nil)))))) sS_never sS_next)
   (sS_ret (sO_call (sAF_cons (sF_o (sO_call (sAF_cons (sF_o (sO_call (sAF_cons sF_var (sAF_cons sF_var sAF_nil)))) (sAF_cons (sF_opF oF_ixT sF_var sF_int) (sAF_cons (sF_opF oF_ixT sF_var sF_int) (sAF_cons sF_var sAF_nil)))))) (sAF_cons sF_var sAF_nil))))),?_⟩)
 rintro ds Pr ⟨h,w,L,n,k,fs,vs,rfl,ok,hb,hk,hl,hP⟩
 obtain⟨h0,hh,hw,hL⟩:=hb
 gn_on
 refine⟨0,L,k,rfl,?_⟩
 rw[decide_eq_true (by lia:(0:Int)<=k),decide_eq_true (by lia:(k:Int)<=L)]
 show if (!true)=true then _ else _
 rw[if_neg (by decide)]
 gp_on
 fin2
 refine⟨h,w,L,n,fs,vs,rfl,⟨hh,hw,by lia⟩,hl,?_⟩
 fin2
 rw[shT_val]
 refine⟨h,w,_,fs,L,k,rfl,ok,hL,by lia,h0,by lia,by lia,?_⟩
 fin2
 rw[shT_val]
 exact⟨Sp2,spD,h,w,k,_,rfl,by lia,by lia,by lia,hP⟩
abbrev s_law_cell_at:Stmt:=top 48
theorem sc_law_cell_at:FnScope ["_law_script","_law_k"] ["_law_script","_law_k"] (defScope s_law_cell_at):=by walk_at "S"
def sp_law_cell_at:DSp:=λds P=>∃(ns:List Int) (k:Int),ds=[.lst (ns.map .int),.int k]/\0<=k/\P (.fz (.int (ns.getD k.toNat 0)))
theorem ok_law_cell_at {f:Addr}{fd:FuncData}(Df:DefAt K mg "_law_cell_at" s_law_cell_at f fd)(B:BltV mg)(KV:KitV K):
  Cal P w K mg base "_law_cell_at" 1 ["_law_script","_law_k"] (spV K 2 sp_law_cell_at):=by
 refine CalV.of Df sc_law_cell_at (by walk_at "b") rfl (λc A o s H E hr=>⟨_,_,(pss_cons (ps_if (pt_cmpR op_lt (pv 1) (pe_callB call_len_seq (by rfl) B.len boot_len (pa_cons (pv 0) pa_nil)) (nomark _)) (pss_one (ps_ret (pe_ix ix_list (pv 0) (pv 1) (λ_ _=>rfl)))) pss_nil)
   (pss_one (ps_ret pe_int))),
  (sS_seq (sS_if (sT_test (sF_op oS_b0 sB_var (sB_f (sF_cb cS_len (sAB_cons sB_var sAB_nil))))) (sS_ret (sO_f (sF_opF oF_ixL sF_var sF_var))) sS_next)
   (sS_ret (sO_f sF_int))),?_⟩)
 rintro ds Pr ⟨ns,k,rfl,h0,q⟩
 fin2
 split
 .rename_i h
  exact⟨_,atI_ints h0 h,q⟩
 .rename_i h
  have e:ns.getD k.toNat 0=0:=by
   have hk:ns.length<=k.toNat:=by lia
   simp[List.getD,getElem?_eq_none hk]
  rw[e]at q
  exact q
abbrev s_law_whole:Stmt:=top 49
theorem sc_law_whole:FnScope ["_law_found"] ["_law_found"] (defScope s_law_whole):=by walk_at "S"
def sp_law_whole:DSp:=λds P=>match ds with
 | [.int _]=>P (.fz (.bl true))
 |_=>False
theorem ok_law_whole {f:Addr}{fd:FuncData}(Df:DefAt K mg "_law_whole" s_law_whole f fd)(B:BltV mg)(KV:KitV K):
  Cal P w K mg base "_law_whole" 1 ["_law_found"] (spV K 1 sp_law_whole):=by
 refine CalV.of Df sc_law_whole (by walk_at "b") rfl (λc A o s H E hr=>⟨_,_,(pss_one (ps_ret (pe_and (pe_callB call_isiD (by rfl) B.isinstance boot_isinstance (pa_cons (pv 0) (pa_cons (pe_bltn (v:=.ty "int") (by rfl) B.int PyProof.Rows.boot_int (by rfl)) pa_nil))) (pe_one (pe_not (pe_callB call_isiD (by rfl) B.isinstance boot_isinstance (pa_cons (pv 0) (pa_cons (pe_bltn (v:=.ty "bool") (by rfl) B.bool PyProof.Rows.boot_bool (by rfl)) pa_nil)))))))),
  (sS_ret (sO_f (sF_andV (sF_cb (cS_isi KV) (sAB_cons sB_var (sAB_cons (sB_f sF_ty) sAB_nil))) (sF_notV (sF_cb (cS_isi KV) (sAB_cons sB_var (sAB_cons (sB_f sF_ty) sAB_nil))))))),?_⟩)
 intro ds Pr h
 unfold sp_law_whole at h
 split at h
 .fin2
  exact h
 .exact h.elim
theorem cut_nat {xs:List D}{i j:Int}(h0:0<=i)(h1:i<=j)(h2:j<=(xs.length:Int)):L2.cutD xs (some i) (some j)=(xs.drop i.toNat).take (j.toNat-i.toNat):=by
 unfold L2.cutD
 have e1:HT.sIx xs.length 0 (some i)=i.toNat:=by
  have:=HT.sIx_nat xs.length 0 i.toNat
  rw[toNat_of_nonneg h0]at this
  rw[this];lia
 have e2:HT.sIx xs.length xs.length (some j)=j.toNat:=by
  have:=HT.sIx_nat xs.length xs.length j.toNat
  rw[toNat_of_nonneg (by lia)]at this
  rw[this];(clear h0 h1 e1;lia)
 rw[e1,e2]
def sp_law_spread:DSp:=λds P=>∃(c:Int) (m:Nat),ds=[.int c,.int m]/\m<=1000/\∀xs:List Int,xs.length=m->P (.nl (xs.map λx=>.fz (.int x)))
def sp_law_ladder:DSp:=λds P=>∃(c:Int) (m:Nat),ds=[.int c,.int m]/\1<=m/\m<=6/\∀fs:List Lf,fs.length<=max m 3->(∀f∈fs,f.Ok)->P (.fz (ladD fs))
def sp_law_sizes:DSp:=λds P=>∃(way c:Int),ds=[.int way,.int c]/\0<=way/\way<8/\∀h w:Nat,1<=h->h<=64->1<=w->w<=64->h*w<=400->(way<6->h*w<=12)->P (.fz (.tup [.int h,.int w]))
def sp_law_how:DSp:=λds P=>∃(way c o:Int),ds=[.int way,.int c,.int o]/\∀(fs:List Lf) (L:Nat),fs.length<=3->(∀f∈fs,f.Ok)->L<=6->(5<way->L<=2)->P (.fz (.tup [ladD fs,.int L]))
abbrev s_law_spread:Stmt:=top 50
theorem sc_law_spread:FnScope ["_law_cell","_law_many","_law_number","_law_found","_law_k"] ["_law_cell","_law_many"] (defScope s_law_spread):=by walk_at "S"
abbrev s_law_ladder:Stmt:=top 51
theorem sc_law_ladder:FnScope ["_law_cell","_law_most","_law_named","_law_xs","_law_lifts","_law_k","_law_part"] ["_law_cell","_law_most"] (defScope s_law_ladder):=by walk_at "S"
abbrev s_law_sizes:Stmt:=top 52
theorem sc_law_sizes:FnScope ["_law_way","_law_cell","_law_high"] ["_law_way","_law_cell"] (defScope s_law_sizes):=by walk_at "S"
abbrev s_law_how:Stmt:=top 53
theorem sc_law_how:FnScope ["_law_way","_law_cell","_law_other"] ["_law_way","_law_cell","_law_other"] (defScope s_law_how):=by walk_at "S"
theorem ok_law_spread {f:Addr}{fd:FuncData}(Df:DefAt K mg "_law_spread" s_law_spread f fd)(B:BltV mg)(KV:KitV K):
  Cal P w K mg base "_law_spread" 1 ["_law_cell","_law_many"] (spV K 2 sp_law_spread):=by
 refine CalV.of Df sc_law_spread (by walk_at "b") rfl (λc A o s H E hr=>⟨_,_,(pss_cons (ps_set (i:=2) sc_law_spread.nd rfl (Or.inl rfl) (pe_op op_mod (pv 0) pe_int))
   (pss_cons (ps_set (i:=3) sc_law_spread.nd rfl (Or.inl rfl) (pe_lstS pa_nil))
   (pss_cons (ps_for PassesOwn.never rfl (pi_range1 (by rfl) (by exact B.range) (pa_cons (pe_op op_add (pv 1) pe_int) pa_nil)) (pg_name (i:=4) sc_law_spread.nd rfl (Or.inl rfl)) (pss_cons (ps_set (i:=2) sc_law_spread.nd rfl (Or.inl rfl) (pe_op op_mod (pe_op op_add (pe_op op_add (pe_op op_add (pe_op op_mul (pe_op op_mul (pv 2) (pv 2)) pe_int) (pe_op op_mul (pv 2) pe_int)) (pe_op op_mul pe_int (pv 4))) pe_int) pe_int))
   (pss_one (ps_expr (pe_bm plainAttrs_list PySem.F.slot_list_append PySem.F.type_list_append mt_append (pv 3) (pa_cons (pe_op op_fdiv (pv 2) pe_int) pa_nil))))))
   (pss_one (ps_ret (pe_slice sl_listS (pv 3) (po_some pe_int) po_none)))))),
  (sS_seq (sS_set (sO_f (sF_op oS_i sB_var (sB_f sF_int))))
   (sS_seq (sS_set (sO_lst sAO_nil))
   (sS_seq (sS_for (sI_rng1 (sAB_cons (sB_f (sF_op oS_i0 sB_var (sB_f sF_int))) sAB_nil)) sG_name (sS_seq (sS_set (sO_f (sF_op oS_i (sB_f (sF_op oS_i0 (sB_f (sF_op oS_i0 (sB_f (sF_op oS_i0 (sB_f (sF_op oS_i (sB_f (sF_op oS_i sB_var sB_var)) (sB_f sF_int))) (sB_f (sF_op oS_i sB_var (sB_f sF_int))))) (sB_f (sF_op oS_i (sB_f sF_int) sB_var)))) (sB_f sF_int))) (sB_f sF_int))))
   (sS_app (sO_f (sF_op oS_i sB_var (sB_f sF_int))))))
   (sS_frz 3 (sS_ret (sO_slL sF_var (sP_pt (sB_f sF_int)) sP_no)))))),?_⟩)
 rintro ds Pr ⟨c,m,rfl,hm,h⟩
 gn_on
 gp_on
 have h0:0<=c%1000000007/\c%1000000007<1000000007:=by lia
 generalize c%1000000007=x at h0
 gn_on
 gp_on
 gn_on
 refine⟨⟨by lia,by lia⟩,λi M=>∃(x:Int) (xs:List Int) (o:Option Sl),M=[vI c,vI m,vI x,some (.own (.nl (xs.map λx=>.fz (.int x)))),o]/\(0<=x/\x<1000000007)/\xs.length=i,⟨x,[],none,rfl,h0,rfl⟩,?_,?_⟩
 .rintro i d M hd ⟨x,xs,o,rfl,hx,hxl⟩
  obtain⟨hi,rfl⟩:=rng_inv hd
  simp only[gN,set_cons_succ,set_cons_zero]
  gn_on
  have hn:0<=(x*x*3+x*7+5*(0+(i:Int)*1)+11)%1000000007/\(x*x*3+x*7+5*(0+(i:Int)*1)+11)%1000000007<1000000007:=⟨emod_nonneg _ (by decide),emod_lt_of_pos _ (by decide)⟩
  generalize (x*x*3+x*7+5*(0+(i:Int)*1)+11)%1000000007=y at hn
  refine⟨.inl ⟨by lia,by lia⟩,?_⟩
  gp_on
  fin2
  refine⟨by lia,y,xs++[y / 7],some (Sl.own (OV.fz (D.int (0+(i:Int)*1)))),?_,hn,by simp[hxl]⟩
  rfl
 .rintro M ⟨x,xs,o,rfl,hx,hxl⟩
  rw[rng_len]at hxl
  gp_on
  fin2
  have hc:L2.cutD (xs.map D.int) (some 2) none=(xs.drop 2).map D.int:=by
   unfold L2.cutD
   have e1:HT.sIx (xs.map D.int).length 0 (some 2)=min 2 (xs.map D.int).length:=HT.sIx_nat _ _ 2
   have e2:HT.sIx (xs.map D.int).length (xs.map D.int).length none=(xs.map D.int).length:=rfl
   rw[e1,e2,length_map,Nat.min_eq_left (by lia),<- map_drop,take_of_length_le (by rw[length_map,length_drop];lia)]
  rw[hc,fz_int]
  exact h _ (by rw[length_drop];lia)
theorem lift_ok5 (x0 x1 x2 x3 x4:Int):(⟨x0%2,x1%17-8,x2%17-8,x3%129-64,x4%9⟩:Lf).Ok:=
 have a:∀x:Int,-8<=x%17-8/\x%17-8<=8:=λx=>by lia
 ⟨by show x0%2=0∨x0%2=1;lia,a x1,a x2,by show -64<=x3%129-64/\x3%129-64<=64;lia,by show 0<=x4%9/\x4%9<=8;lia⟩
theorem lad4 (i:Int)(h0:0<=i)(h4:i<4):∃fs:List Lf,fs.length<=3/\(∀f∈fs,f.Ok)/\atI [D.tup [],D.tup [D.tup [D.int 1,D.int (-1),D.int 0,D.int 0,D.int 0],D.tup [D.int 0,D.int 0,D.int 1,D.int 0,D.int 1]],D.tup [D.tup [D.int 1,D.int (-1),D.int (-1),D.int 1,D.int 1],D.tup [D.int 0,D.int 1,D.int 1,D.int 2,D.int 2]],D.tup [D.tup [D.int 1,D.int (-1),D.int (-1),D.int 1,D.int 1],D.tup [D.int 0,D.int 1,D.int 1,D.int 2,D.int 2],D.tup [D.int 1,D.int (-1),D.int (-1),D.int 4,D.int 3]]] i=some (ladD fs):=by
 have ok:∀h l r a s:Int,(h=0∨h=1)->(-8<=l/\l<=8)->(-8<=r/\r<=8)->(-64<=a/\a<=64)->(0<=s/\s<=8)->(⟨h,l,r,a,s⟩:Lf).Ok:=λh l r a s h1 h2 h3 h4 h5=>⟨h1,h2,h3,h4,h5⟩
 have o1:=ok 1 (-1) 0 0 0 (.inr rfl) (by decide) (by decide) (by decide) (by decide)
 have o2:=ok 0 0 1 0 1 (.inl rfl) (by decide) (by decide) (by decide) (by decide)
 have o3:=ok 1 (-1) (-1) 1 1 (.inr rfl) (by decide) (by decide) (by decide) (by decide)
 have o4:=ok 0 1 1 2 2 (.inl rfl) (by decide) (by decide) (by decide) (by decide)
 have o5:=ok 1 (-1) (-1) 4 3 (.inr rfl) (by decide) (by decide) (by decide) (by decide)
 rcases (show i=0∨i=1∨i=2∨i=3 by lia) with rfl |rfl |rfl |rfl
 .exact ⟨[],by decide,(λf hf=>by cases hf),rfl⟩
 .refine ⟨[⟨1,-1,0,0,0⟩,⟨0,0,1,0,1⟩],by decide,λf hf=>?_,rfl⟩
  simp only[mem_cons,not_mem_nil,or_false]at hf
  rcases hf with rfl |rfl
  .exact o1
  .exact o2
 .refine ⟨[⟨1,-1,-1,1,1⟩,⟨0,1,1,2,2⟩],by decide,λf hf=>?_,rfl⟩
  simp only[mem_cons,not_mem_nil,or_false]at hf
  rcases hf with rfl |rfl
  .exact o3
  .exact o4
 .refine ⟨[⟨1,-1,-1,1,1⟩,⟨0,1,1,2,2⟩,⟨1,-1,-1,4,3⟩],by decide,λf hf=>?_,rfl⟩
  simp only[mem_cons,not_mem_nil,or_false]at hf
  rcases hf with rfl |rfl |rfl
  .exact o3
  .exact o4
  .exact o5
theorem ok_law_ladder {f:Addr}{fd:FuncData}(Df:DefAt K mg "_law_ladder" s_law_ladder f fd)(B:BltV mg)(KV:KitV K)(c_law_spread:Cal P w K mg base "_law_spread" 1 ["_law_cell","_law_many"] (spV K 2 sp_law_spread)):
  Cal P w K mg base "_law_ladder" 2 ["_law_cell","_law_most"] (spV K 2 sp_law_ladder):=by
 refine CalV.of Df sc_law_ladder (by walk_at "b") rfl (λc A o s H E hr=>⟨_,_,(pss_cons (ps_set (i:=2) sc_law_ladder.nd rfl (Or.inl rfl) (pe_lstS (pa_cons (pe_tupS pa_nil) (pa_cons (pe_tupS (pa_cons (pe_tupS (pa_cons pe_int (pa_cons (pe_un un_neg pe_int) (pa_cons pe_int (pa_cons pe_int (pa_cons pe_int pa_nil)))))) (pa_cons (pe_tupS (pa_cons pe_int (pa_cons pe_int (pa_cons pe_int (pa_cons pe_int (pa_cons pe_int pa_nil)))))) pa_nil))) (pa_cons (pe_tupS (pa_cons (pe_tupS (pa_cons pe_int (pa_cons (pe_un un_neg pe_int) (pa_cons (pe_un un_neg pe_int) (pa_cons pe_int (pa_cons pe_int pa_nil)))))) (pa_cons (pe_tupS (pa_cons pe_int (pa_cons pe_int (pa_cons pe_int (pa_cons pe_int (pa_cons pe_int pa_nil)))))) pa_nil))) pa_nil)))))
   (pss_cons (ps_expr (pe_bm plainAttrs_list PySem.F.slot_list_append PySem.F.type_list_append mt_append (pv 2) (pa_cons (pe_op op_catTS (pe_ix ix_list (pv 2) pe_int (λ_ _=>rfl)) (pe_tupS (pa_cons (pe_tupS (pa_cons pe_int (pa_cons (pe_un un_neg pe_int) (pa_cons (pe_un un_neg pe_int) (pa_cons pe_int (pa_cons pe_int pa_nil)))))) pa_nil))) pa_nil)))
   (pss_cons (ps_if (pt_cmpR op_eq (pe_op op_mod (pv 0) pe_int) pe_int (nomark _)) (pss_one (ps_ret (pe_ix ix_list (pv 2) (pe_op op_mod (pe_op op_fdiv (pv 0) pe_int) pe_int) (λ_ _=>rfl)))) pss_nil)
   (pss_cons (ps_set (i:=3) sc_law_ladder.nd rfl (Or.inl rfl) (pe_cal c_law_spread (hr.mono (by decide)) (by rfl) (pa_cons (pe_op op_fdiv (pv 0) pe_int) (pa_cons (pe_op op_mul pe_int (pv 1)) pa_nil))))
   (pss_cons (ps_set (i:=4) sc_law_ladder.nd rfl (Or.inl rfl) (pe_lstS pa_nil))
   (pss_cons (ps_for PassesOwn.never rfl (pi_range1 (by rfl) (by exact B.range) (pa_cons (pe_op op_add pe_int (pe_op op_mod (pe_op op_fdiv (pv 0) pe_int) (pv 1))) pa_nil)) (pg_name (i:=5) sc_law_ladder.nd rfl (Or.inl rfl)) (pss_cons (ps_set (i:=6) sc_law_ladder.nd rfl (Or.inl rfl) (pe_slice sl_listS (pv 3) (po_some (pe_op op_mul pe_int (pv 5))) (po_some (pe_op op_add (pe_op op_mul pe_int (pv 5)) pe_int))))
   (pss_one (ps_expr (pe_bm plainAttrs_list PySem.F.slot_list_append PySem.F.type_list_append mt_append (pv 4) (pa_cons (pe_tupS (pa_cons (pe_op op_mod (pe_ix ix_list (pv 6) pe_int (λ_ _=>rfl)) pe_int) (pa_cons (pe_op op_sub (pe_op op_mod (pe_ix ix_list (pv 6) pe_int (λ_ _=>rfl)) pe_int) pe_int) (pa_cons (pe_op op_sub (pe_op op_mod (pe_ix ix_list (pv 6) pe_int (λ_ _=>rfl)) pe_int) pe_int) (pa_cons (pe_op op_sub (pe_op op_mod (pe_ix ix_list (pv 6) pe_int (λ_ _=>rfl)) pe_int) pe_int) (pa_cons (pe_op op_mod (pe_ix ix_list (pv 6) pe_int (λ_ _=>rfl)) pe_int) pa_nil)))))) pa_nil))))))
   (pss_one (ps_ret (pe_callTy call_tupleS (by rfl) B.tuple PyProof.Rows.boot_tuple (pa_cons (pv 4) pa_nil)))))))))),
  (sS_seq (sS_set (sO_lst (sAO_cons (sO_f (sF_tup sAF_nil)) (sAO_cons (sO_f (sF_tup (sAF_cons (sF_tup (sAF_cons sF_int (sAF_cons (sF_neg (sB_f sF_int)) (sAF_cons sF_int (sAF_cons sF_int (sAF_cons sF_int sAF_nil)))))) (sAF_cons (sF_tup (sAF_cons sF_int (sAF_cons sF_int (sAF_cons sF_int (sAF_cons sF_int (sAF_cons sF_int sAF_nil)))))) sAF_nil)))) (sAO_cons (sO_f (sF_tup (sAF_cons (sF_tup (sAF_cons sF_int (sAF_cons (sF_neg (sB_f sF_int)) (sAF_cons (sF_neg (sB_f sF_int)) (sAF_cons sF_int (sAF_cons sF_int sAF_nil)))))) (sAF_cons (sF_tup (sAF_cons sF_int (sAF_cons sF_int (sAF_cons sF_int (sAF_cons sF_int (sAF_cons sF_int sAF_nil)))))) sAF_nil)))) sAO_nil)))))
   (sS_seq (sS_app (sO_f (sF_catT (sF_lf (sB_op (OpF.b oF_ixL) sB_var (sB_f sF_int))) (sF_tup (sAF_cons (sF_tup (sAF_cons sF_int (sAF_cons (sF_neg (sB_f sF_int)) (sAF_cons (sF_neg (sB_f sF_int)) (sAF_cons sF_int (sAF_cons sF_int sAF_nil)))))) sAF_nil)))))
   (sS_seq (sS_if (sT_test (sF_op oS_eq (sB_f (sF_op oS_i sB_var (sB_f sF_int))) (sB_f sF_int))) (sS_ret (sO_f (sF_lf (sB_op (OpF.b oF_ixL) sB_var (sB_f (sF_op oS_i (sB_f (sF_op oS_i sB_var (sB_f sF_int))) (sB_f sF_int))))))) sS_next)
   (sS_seq (sS_set (sO_f (sF_o (sO_call (sAF_cons (sF_op oS_i sB_var (sB_f sF_int)) (sAF_cons (sF_op oS_i (sB_f sF_int) sB_var) sAF_nil))))))
   (sS_seq (sS_set (sO_lst sAO_nil))
   (sS_seq (sS_for (sI_rng1 (sAB_cons (sB_f (sF_op oS_i0 (sB_f sF_int) (sB_f (sF_op oS_i (sB_f (sF_op oS_i sB_var (sB_f sF_int))) sB_var)))) sAB_nil)) sG_name (sS_seq (sS_set (sO_f (sF_o (sO_slL sF_var (sP_pt (sB_f (sF_op oS_i (sB_f sF_int) sB_var))) (sP_pt (sB_f (sF_op oS_i0 (sB_f (sF_op oS_i (sB_f sF_int) sB_var)) (sB_f sF_int))))))))
   (sS_app (sO_f (sF_tup (sAF_cons (sF_op oS_i (sB_op (OpF.b oF_ixL) sB_var (sB_f sF_int)) (sB_f sF_int)) (sAF_cons (sF_op oS_i0 (sB_f (sF_op oS_i (sB_op (OpF.b oF_ixL) sB_var (sB_f sF_int)) (sB_f sF_int))) (sB_f sF_int)) (sAF_cons (sF_op oS_i0 (sB_f (sF_op oS_i (sB_op (OpF.b oF_ixL) sB_var (sB_f sF_int)) (sB_f sF_int))) (sB_f sF_int)) (sAF_cons (sF_op oS_i0 (sB_f (sF_op oS_i (sB_op (OpF.b oF_ixL) sB_var (sB_f sF_int)) (sB_f sF_int))) (sB_f sF_int)) (sAF_cons (sF_op oS_i (sB_op (OpF.b oF_ixL) sB_var (sB_f sF_int)) (sB_f sF_int)) sAF_nil))))))))))
   (sS_frz 4 (sS_ret (sO_cb cO_tup (sAF_cons sF_var sAF_nil)))))))))),?_⟩)
 rintro ds Pr ⟨c,m,rfl,hm0,hm,h⟩
 gn_on
 gp_on
 gn_on
 refine⟨by decide,by simp,by simp,?_⟩
 gp_on
 gn_on
 split
 .obtain ⟨fs,f1,f2,f3⟩:=lad4 (c / 2%4) (by lia) (by lia)
  refine⟨_,f3,?_,h fs (by lia) f2⟩
  simp[ladD,lfD,D.lf,D.lfs,D.lfs_eq]
 gp_on
 gn_on
 refine⟨c / 2,5*m,by rw[show ((5*m:Nat):Int)=5*(m:Int) by lia],by lia,λxs hxl=>?_⟩
 fin2
 gp_on
 gn_on
 gp_on
 gn_on
 have hr:1<=1+c / 2%(m:Int)/\1+c / 2%(m:Int)<=m:=by
  have h1:0<=c / 2%(m:Int):=emod_nonneg _ (by lia)
  have h2:c / 2%(m:Int)<m:=emod_lt_of_pos _ (by lia)
  lia
 generalize 1+c / 2%(m:Int)=rr at hr
 generalize [OV.fz (D.tup []),OV.fz (D.tup [D.tup [D.int 1,D.int (-1),D.int 0,D.int 0,D.int 0],D.tup [D.int 0,D.int 0,D.int 1,D.int 0,D.int 1]]),OV.fz (D.tup [D.tup [D.int 1,D.int (-1),D.int (-1),D.int 1,D.int 1],D.tup [D.int 0,D.int 1,D.int 1,D.int 2,D.int 2]]),OV.fz (D.tup [D.tup [D.int 1,D.int (-1),D.int (-1),D.int 1,D.int 1],D.tup [D.int 0,D.int 1,D.int 1,D.int 2,D.int 2],D.tup [D.int 1,D.int (-1),D.int (-1),D.int 4,D.int 3]])]=named
 refine⟨by lia,⟨by lia,by lia⟩,λi M=>∃(fs:List Lf) (o5 o6:Option Sl),M=[vI c,vI m,some (.own (.nl named)),vD (.lst (xs.map .int)),some (.own (.nl (fs.map λf=>.fz (lfD f)))),o5,o6]/\(∀f∈fs,f.Ok)/\fs.length=i,⟨[],none,none,rfl,(λf hf=>by cases hf),rfl⟩,?_,?_⟩
 .rintro i d M hd ⟨fs,o5,o6,rfl,ok,hfl⟩
  obtain⟨hi,rfl⟩:=rng_inv hd
  simp only[gN,set_cons_succ,set_cons_zero]
  gn_on
  have hcut:L2.cutD (xs.map D.int) (some (5*(0+(i:Int)*1))) (some (5*(0+(i:Int)*1)+5))=((xs.drop (5*i)).take 5).map D.int:=by
   rw[show 5*(0+(i:Int)*1)=((5*i:Nat):Int) by lia,show ((5*i:Nat):Int)+5=((5*i+5:Nat):Int) by lia]
   rw[cut_nat (by lia) (by lia) (by rw[length_map];lia),toNat_natCast,toNat_natCast,<- map_drop,<- List.map_take,show 5*i+5-5*i=5 by lia]
  rw[hcut,map_map,show ((OV.val∘OV.fz):D->D)=id from rfl,map_id]
  obtain⟨x0,x1,x2,x3,x4,e5⟩:∃x0 x1 x2 x3 x4,(xs.drop (5*i)).take 5=[x0,x1,x2,x3,x4]:=by
   have hl:((xs.drop (5*i)).take 5).length=5:=by rw[length_take,length_drop];lia
   match (xs.drop (5*i)).take 5,hl with
   | [a,b,c,d,e],_=>exact⟨a,b,c,d,e,rfl⟩
  rw[e5]
  gp_on
  fin2
  refine⟨by lia,fs++[⟨x0%2,x1%17-8,x2%17-8,x3%129-64,x4%9⟩],some (Sl.own (OV.fz (D.int (0+(i:Int)*1)))),some (Sl.own (OV.fz (D.lst [D.int x0,D.int x1,D.int x2,D.int x3,D.int x4]))),?_,λf hf=>?_,by simp[hfl]⟩
  .rw [map_append]
   rfl
  .rcases mem_append.mp hf with z |z
   .exact ok f z
   .rw [mem_singleton.mp z]
    exact lift_ok5 x0 x1 x2 x3 x4
 .rintro M ⟨fs,o5,o6,rfl,ok,hfl⟩
  rw[rng_len]at hfl
  gp_on
  fin2
  rw[map_map]
  exact h fs (by lia) ok
theorem ok_law_sizes {f:Addr}{fd:FuncData}(Df:DefAt K mg "_law_sizes" s_law_sizes f fd)(B:BltV mg)(KV:KitV K):
  Cal P w K mg base "_law_sizes" 1 ["_law_way","_law_cell"] (spV K 2 sp_law_sizes):=by
 refine CalV.of Df sc_law_sizes (by walk_at "b") rfl (λc A o s H E hr=>⟨_,_,(pss_cons (ps_if (pt_cmpR op_eq (pv 0) pe_int (nomark _)) (pss_one (ps_ret (pe_tupS (pa_cons (pe_op op_add pe_int (pe_op op_fdiv (pe_op op_mod (pv 1) pe_int) pe_int)) (pa_cons (pe_op op_add pe_int (pe_op op_mod (pe_op op_mod (pv 1) pe_int) pe_int)) pa_nil))))) pss_nil)
   (pss_cons (ps_if (pw_and (pt_cmpR op_eq (pv 0) pe_int (nomark _)) (pw_and1 (pt_cmpR op_eq (pe_op op_mod (pv 1) pe_int) pe_int (nomark _)))).pt (pss_one (ps_ret (pe_tupS (pa_cons pe_int (pa_cons (pe_op op_add pe_int (pe_op op_mod (pe_op op_fdiv (pv 1) pe_int) pe_int)) pa_nil))))) pss_nil)
   (pss_cons (ps_if (pt_cmpR op_eq (pv 0) pe_int (nomark _)) (pss_one (ps_ret (pe_tupS (pa_cons (pe_op op_add pe_int (pe_op op_mod (pe_op op_fdiv (pv 1) pe_int) pe_int)) (pa_cons pe_int pa_nil))))) pss_nil)
   (pss_cons (ps_if (pw_and (pt_cmpR op_eq (pv 0) pe_int (nomark _)) (pw_and1 (pt_cmpR op_eq (pe_op op_mod (pe_op op_fdiv (pv 1) pe_int) pe_int) pe_int (nomark _)))).pt (pss_one (ps_ret (pe_tupS (pa_cons pe_int (pa_cons pe_int pa_nil))))) pss_nil)
   (pss_cons (ps_if (pt_cmpR op_eq (pv 0) pe_int (nomark _)) (pss_one (ps_ret (pe_tupS (pa_cons (pe_op op_add pe_int (pe_op op_mod (pv 1) pe_int)) (pa_cons (pe_op op_add pe_int (pe_op op_mod (pe_op op_fdiv (pv 1) pe_int) pe_int)) pa_nil))))) pss_nil)
   (pss_cons (ps_set (i:=2) sc_law_sizes.nd rfl (Or.inl rfl) (pe_op op_add pe_int (pe_op op_mod (pv 1) pe_int)))
   (pss_one (ps_ret (pe_tupS (pa_cons (pv 2) (pa_cons (pe_op op_add pe_int (pe_op op_mod (pe_op op_fdiv (pv 1) pe_int) (pe_op op_fdiv pe_int (pv 2)))) pa_nil))))))))))),
  (sS_seq (sS_if (sT_test (sF_op oS_eq sB_var (sB_f sF_int))) (sS_ret (sO_f (sF_tup (sAF_cons (sF_op oS_i0 (sB_f sF_int) (sB_f (sF_op oS_i (sB_f (sF_op oS_i sB_var (sB_f sF_int))) (sB_f sF_int)))) (sAF_cons (sF_op oS_i0 (sB_f sF_int) (sB_f (sF_op oS_i (sB_f (sF_op oS_i sB_var (sB_f sF_int))) (sB_f sF_int)))) sAF_nil))))) sS_next)
   (sS_seq (sS_if (sT_and (sT_test (sF_op oS_eq sB_var (sB_f sF_int))) (sT_test (sF_op oS_eq (sB_f (sF_op oS_i sB_var (sB_f sF_int))) (sB_f sF_int)))) (sS_ret (sO_f (sF_tup (sAF_cons sF_int (sAF_cons (sF_op oS_i0 (sB_f sF_int) (sB_f (sF_op oS_i (sB_f (sF_op oS_i sB_var (sB_f sF_int))) (sB_f sF_int)))) sAF_nil))))) sS_next)
   (sS_seq (sS_if (sT_test (sF_op oS_eq sB_var (sB_f sF_int))) (sS_ret (sO_f (sF_tup (sAF_cons (sF_op oS_i0 (sB_f sF_int) (sB_f (sF_op oS_i (sB_f (sF_op oS_i sB_var (sB_f sF_int))) (sB_f sF_int)))) (sAF_cons sF_int sAF_nil))))) sS_next)
   (sS_seq (sS_if (sT_and (sT_test (sF_op oS_eq sB_var (sB_f sF_int))) (sT_test (sF_op oS_eq (sB_f (sF_op oS_i (sB_f (sF_op oS_i sB_var (sB_f sF_int))) (sB_f sF_int))) (sB_f sF_int)))) (sS_ret (sO_f (sF_tup (sAF_cons sF_int (sAF_cons sF_int sAF_nil))))) sS_next)
   (sS_seq (sS_if (sT_test (sF_op oS_eq sB_var (sB_f sF_int))) (sS_ret (sO_f (sF_tup (sAF_cons (sF_op oS_i0 (sB_f sF_int) (sB_f (sF_op oS_i sB_var (sB_f sF_int)))) (sAF_cons (sF_op oS_i0 (sB_f sF_int) (sB_f (sF_op oS_i (sB_f (sF_op oS_i sB_var (sB_f sF_int))) (sB_f sF_int)))) sAF_nil))))) sS_next)
   (sS_seq (sS_set (sO_f (sF_op oS_i0 (sB_f sF_int) (sB_f (sF_op oS_i sB_var (sB_f sF_int))))))
   (sS_ret (sO_f (sF_tup (sAF_cons sF_var (sAF_cons (sF_op oS_i0 (sB_f sF_int) (sB_f (sF_op oS_i (sB_f (sF_op oS_i sB_var (sB_f sF_int))) (sB_f (sF_op oS_i (sB_f sF_int) sB_var))))) sAF_nil))))))))))),?_⟩)
 rintro ds Pr ⟨way,c,rfl,hw0,hw8,h⟩
 have go:∀(a b:Int) (A B:Nat),(1<=a/\a<=A)->(1<=b/\b<=B)->A<=64->B<=64->A*B<=400->(way<6->A*B<=12)->Pr (OV.fz (D.tup [D.int a,D.int b])):=λa b A B ha hb hA hB h5 h6=>by
  obtain⟨x,rfl⟩:∃x:Nat,a=x:=⟨a.toNat,by lia⟩
  obtain⟨y,rfl⟩:∃y:Nat,b=y:=⟨b.toNat,by lia⟩
  have hx:1<=x/\x<=A:=by lia
  have hy:1<=y/\y<=B:=by lia
  have hm:=mul_le_mul hx.2 hy.2
  exact h x y hx.1 (Nat.le_trans hx.2 hA) hy.1 (Nat.le_trans hy.2 hB) (Nat.le_trans hm h5) λz=>Nat.le_trans hm (h6 z)
 fin2
 by_cases e5:way=5
 .rw [if_pos e5]
  exact go _ _ 2 2 (by lia) (by lia) (by decide) (by decide) (by decide) (λ_=>by decide)
 .rw [if_neg e5]
  by_cases e6:way=6
  .rw [if_pos e6,if_pos e6]
   have n6:¬ way<6:=by lia
   clear e5 e6
   split
   .exact go _ _ 1 64 (by decide) (by lia) (by decide) (by decide) (by decide) λz=>absurd z n6
   .exact go _ _ 64 1 (by lia) (by decide) (by decide) (by decide) (by decide) λz=>absurd z n6
  .rw [if_neg e6,if_neg e6]
   by_cases e7:way=7
   .rw [if_pos e7]
    have n6:¬ way<6:=by lia
    rw[if_pos e7]
    clear e5 e6 e7
    split
    .exact go _ _ 9 9 (by decide) (by decide) (by decide) (by decide) (by decide) λz=>absurd z n6
    .exact go _ _ 5 5 (by lia) (by lia) (by decide) (by decide) (by decide) λz=>absurd z n6
   .rw [if_neg e7,if_neg e7]
    clear e5 e6 e7 hw0 hw8
    have ha:1<=1+c%12/\1+c%12<=12:=by lia
    generalize 1+c%12=a at ha
    have a0:0<a:=by lia
    have hq:1<=12 / a:=by
     rw[Int.le_ediv_iff_mul_le a0]
     lia
    have hq2:a*(12 / a)<=12:=Int.mul_ediv_self_le (by lia)
    generalize 12 / a=e at hq hq2
    have hb:0<=c / 12%e/\c / 12%e<e:=⟨emod_nonneg _ (by lia),emod_lt_of_pos _ hq⟩
    generalize c / 12%e=b at hb
    have h12:a*(1+b)<=12:=Int.le_trans (Int.mul_le_mul_of_nonneg_left (by lia) (Int.le_of_lt a0)) hq2
    obtain⟨x,rfl⟩:∃x:Nat,a=x:=⟨a.toNat,by lia⟩
    obtain⟨y,hy⟩:∃y:Nat,1+b=y:=⟨(1+b).toNat,by lia⟩
    rw[hy]at h12 ⊢
    have hxy:x*y<=12:=by exact_mod_cast h12
    have x1:1<=x:=by lia
    have y1:1<=y:=by lia
    have y12:y<=12:=Nat.le_trans (Nat.le_mul_of_pos_left y x1) hxy
    exact⟨⟨by omega,by lia⟩,by lia,h x y x1 (by lia) y1 (Nat.le_trans y12 (by decide)) (Nat.le_trans hxy (by decide)) λ_=>hxy⟩
theorem ok_law_how {f:Addr}{fd:FuncData}(Df:DefAt K mg "_law_how" s_law_how f fd)(B:BltV mg)(KV:KitV K)(c_law_ladder:Cal P w K mg base "_law_ladder" 2 ["_law_cell","_law_most"] (spV K 2 sp_law_ladder)):
  Cal P w K mg base "_law_how" 3 ["_law_way","_law_cell","_law_other"] (spV K 3 sp_law_how):=by
 refine CalV.of Df sc_law_how (by walk_at "b") rfl (λc A o s H E hr=>⟨_,_,(pss_cons (ps_if (pt_cmpR op_gt (pv 0) pe_int (nomark _)) (pss_one (ps_ret (pe_tupS (pa_cons (pe_cal c_law_ladder (hr.mono (by decide)) (by rfl) (pa_cons (pv 1) (pa_cons pe_int pa_nil))) (pa_cons (pe_op op_mod (pv 2) pe_int) pa_nil))))) pss_nil)
   (pss_one (ps_ret (pe_tupS (pa_cons (pe_cal c_law_ladder (hr.mono (by decide)) (by rfl) (pa_cons (pv 1) (pa_cons pe_int pa_nil))) (pa_cons (pe_op op_mod (pv 2) pe_int) pa_nil)))))),
  (sS_seq (sS_if (sT_test (sF_op oS_b0 sB_var (sB_f sF_int))) (sS_ret (sO_f (sF_tup (sAF_cons (sF_o (sO_call (sAF_cons sF_var (sAF_cons sF_int sAF_nil)))) (sAF_cons (sF_op oS_i sB_var (sB_f sF_int)) sAF_nil))))) sS_next)
   (sS_ret (sO_f (sF_tup (sAF_cons (sF_o (sO_call (sAF_cons sF_var (sAF_cons sF_int sAF_nil)))) (sAF_cons (sF_op oS_i sB_var (sB_f sF_int)) sAF_nil)))))),?_⟩)
 rintro ds Pr ⟨way,c,o,rfl,h⟩
 fin2
 split
 .refine ⟨c,1,rfl,by decide,by decide,λfs hf ok=>?_⟩
  have:=h fs (o%3).toNat (by lia) ok (by lia) (λ_=>by lia)
  rw[toNat_of_nonneg (by lia)]at this
  exact this
 .rename_i hw
  refine⟨c,3,rfl,by decide,by decide,λfs hf ok=>?_⟩
  have:=h fs (o%7).toNat (by lia) ok (by lia) (λz=>absurd z hw)
  rw[toNat_of_nonneg (by lia)]at this
  exact this
def pairF (xs ys:List Int):List (Int×Int):=xs.flatMap λi=>ys.map λj=>(i,j)
def evens (h:List Bool):List Bool:=(List.range ((h.length+1) / 2)).map λi=>h.getD (2*i) false
theorem evens_len {h:List Bool}:(evens h).length=(h.length+1) / 2:=by simp[evens]
theorem evens_get {h:List Bool}{i:Nat}(hi:i<(h.length+1) / 2):(evens h).getD i false=h.getD (2*i) false:=by
 unfold evens
 rw[getD_eq_getElem?_getD,getElem?_map,getElem?_range hi];rfl
theorem evens_hl {s:Int}(hs:0<s){h:List Bool}:(hl s h).filter (λx=>decide (x%(2*s)=0))=hl (2*s) (evens h):=by
 refine sorted_ext _ _ (List.Pairwise.filter _ (hl_sorted hs h)) (hl_sorted (by lia) _) λx=>?_
 rw[mem_filter,hl_mem,hl_mem,evens_len]
 constructor
 .rintro ⟨⟨k,k1,k2,rfl⟩,h2⟩
  have h2:(k:Int)*s%(2*s)=0:=by simpa using h2
  rw[Int.mul_comm (k:Int) s,Int.mul_comm 2 s,Int.mul_emod_mul_of_pos _ _ hs]at h2
  have hk:k%2=0:=by
   have:=(Int.mul_eq_zero.mp h2)
   lia
  refine⟨k / 2,by lia,?_,?_⟩
  .rw [evens_get (by lia),show 2*(k / 2)=k by lia];exact k2
  .rw [<- mul_assoc,show ((k / 2:Nat):Int)*2=k by lia]
 .rintro ⟨i,i1,i2,rfl⟩
  rw[evens_get i1]at i2
  have e:(i:Int)*(2*s)=((2*i:Nat):Int)*s:=by rw[<- mul_assoc,Int.natCast_mul,Int.mul_comm (i:Int)];rfl
  refine⟨⟨2*i,by lia,i2,e⟩,?_⟩
  simp
theorem evens_m {s m:Int}{h:List Bool}(hm:∀k:Nat,k<h.length↔(k:Int)*s<m)(k:Nat):k<(evens h).length↔(k:Int)*(2*s)<m:=by
 have e:(k:Int)*(2*s)=((2*k:Nat):Int)*s:=by rw[<- mul_assoc,Int.natCast_mul,Int.mul_comm (k:Int)];rfl
 rw[evens_len,e,<- hm (2*k)]
 lia
def runH (m t n:Nat):List Bool:=(List.range m).map λi=>decide (t<=i/\i<t+n)
theorem runH_len {m t n:Nat}:(runH m t n).length=m:=by simp[runH]
theorem runH_hl {m t n:Nat}(h:t+n<=m):hl 1 (runH m t n)=(List.range n).map λ(i:Nat)=>(t:Int)+i:=by
 refine sorted_ext _ _ (hl_sorted (by decide) _) ?_ λx=>?_
 .refine List.Pairwise.map _ (λa b hab=>?_) (pairwise_lt_range (n:=n))
  show (t:Int)+a<t+b
  lia
 .rw [hl_mem,runH_len,mem_map]
  constructor
  .rintro ⟨k,k1,k2,rfl⟩
   have k2:t<=k/\k<t+n:=by
    unfold runH at k2
    rw[getD_eq_getElem?_getD,getElem?_map,getElem?_range k1]at k2
    simpa using k2
   exact⟨k-t,mem_range.mpr (by lia),by lia⟩
  .rintro ⟨i,hi,rfl⟩
   have hi:=mem_range.mp hi
   refine⟨t+i,by lia,?_,by lia⟩
   unfold runH
   rw[getD_eq_getElem?_getD,getElem?_map,getElem?_range (by lia)]
   simp;omega
def RH (fs:List Lf)(h:List Bool):Nat->List Bool
 | 0=>h
 |k+1=>evens (hsK fs (RH fs h k) fs.length)
theorem RH_m {fs:List Lf}{h:List Bool}{m:Int}(hm:∀k:Nat,k<h.length↔(k:Int)<m):∀(k i:Nat),i<(RH fs h k).length↔(i:Int)*2^k<m
 | 0,i=>by
  show i<h.length↔_
  rw[hm i,Int.pow_zero,mul_one]
 |k+1,i=>by
  have:=evens_m (s:=2^k) (h:=hsK fs (RH fs h k) fs.length) (λj=>by rw[hsK_len];exact RH_m hm k j) i
  show i<(evens _).length↔_
  rw[this,pow_succ,Int.mul_comm 2]
theorem RH_len {fs:List Lf}{h:List Bool}:∀k:Nat,(RH fs h k).length<=h.length
 | 0=>Nat.le_refl _
 |k+1=>by
  show (evens _).length<=_
  rw[evens_len,hsK_len]
  have:=RH_len (fs:=fs) (h:=h) k
  lia
def oddP (s:Int)(p:Int×Int):Bool:=decide (¬ p.1%(2*s)=0) ||decide (¬ p.2%(2*s)=0)
def partK (fs:List Lf)(hr hc:List Bool)(L k:Nat):List (Int×Int):=
 if k<L then (pairF (hl (2^k) (hsK fs (RH fs hr k) fs.length)) (hl (2^k) (hsK fs (RH fs hc k) fs.length))).filter (oddP (2^k))
 else pairF (hl (2^k) (RH fs hr k)) (hl (2^k) (RH fs hc k))
def foundK (fs:List Lf)(hr hc:List Bool)(L:Nat):Nat->List (Int×Int)
 | 0=>[]
 |k+1=>partK fs hr hc L k++foundK fs hr hc L k
theorem foundK_eq {fs:List Lf}{hr hc:List Bool}{L:Nat}:∀k,foundK fs hr hc L k=((List.range k).map (partK fs hr hc L)).reverse.flatten
 | 0=>rfl
 |k+1=>by
  rw[range_succ,map_append,reverse_append]
  show partK fs hr hc L k++foundK fs hr hc L k=_
  rw[foundK_eq k]
  simp
theorem in_all {h w:Nat}{p:Int×Int}:p∈allF h w↔0<=p.1/\p.1<h/\0<=p.2/\p.2<w:=by
 unfold allF plRow
 rw[mem_flatMap]
 constructor
 .rintro ⟨i,hi,hp⟩
  obtain⟨j,hj,rfl⟩:=mem_map.mp hp
  have:=mem_range.mp hi
  have:=mem_range.mp hj
  exact⟨by show 0<=(i:Int);lia,by show (i:Int)<h;lia,by show 0<=(j:Int);lia,by show (j:Int)<w;lia⟩
 .rintro ⟨a,b,c,d⟩
  refine⟨p.1.toNat,mem_range.mpr (by lia),mem_map.mpr ⟨p.2.toNat,mem_range.mpr (by lia),?_⟩⟩
  rw[toNat_of_nonneg a,toNat_of_nonneg c]
theorem as_filter {xs:List Int}{m:Nat}(hs:xs.Pairwise (· < ·))(hb:∀x∈xs,0<=x/\x<m):xs=((List.range m).filter λ(i:Nat)=>decide ((i:Int)∈xs)).map λ(i:Nat)=>(i:Int):=by
 refine sorted_ext _ _ hs ?_ λx=>?_
 .refine List.Pairwise.map _ (λa b hab=>?_) (List.Pairwise.filter _ (pairwise_lt_range (n:=m)))
  show (a:Int)<b
  lia
 .rw [mem_map]
  constructor
  .intro hx
   have:=hb x hx
   refine⟨x.toNat,mem_filter.mpr ⟨mem_range.mpr (by lia),?_⟩,by lia⟩
   rw[toNat_of_nonneg this.1];simpa using hx
  .rintro ⟨i,hi,rfl⟩
   simpa using (mem_filter.mp hi).2
theorem pair_filter {xs ys:List Int}{h w:Nat}(hx:xs.Pairwise (· < ·))(bx:∀x∈xs,0<=x/\x<h)(hy:ys.Pairwise (· < ·))(byy:∀y∈ys,0<=y/\y<w):pairF xs ys=(allF h w).filter λp=>decide (p.1∈xs) && decide (p.2∈ys):=by
 have e1:∀i:Nat,(plRow i w).filter (λp=>decide (p.1∈xs) && decide (p.2∈ys))=if decide ((i:Int)∈xs)=true then ys.map λj=>((i:Int),j) else []:=λi=>by
  unfold plRow
  rw[List.filter_map]
  by_cases c:decide ((i:Int)∈xs)=true
  .rw [if_pos c]
   conv=>rhs;rw[as_filter hy byy]
   rw[map_map]
   have:((λp:Int×Int=>decide (p.1∈xs) && decide (p.2∈ys))∘λ(j:Nat)=>((i:Int),(j:Int)))=λ(j:Nat)=>decide ((j:Int)∈ys):=by
    funext j
    show (decide ((i:Int)∈xs) && decide ((j:Int)∈ys))=_
    rw[c,Bool.true_and]
   rw[this];rfl
  .rw [if_neg c]
   have:((λp:Int×Int=>decide (p.1∈xs) && decide (p.2∈ys))∘λ(j:Nat)=>((i:Int),(j:Int)))=λj=>false:=by
    funext j
    show (decide ((i:Int)∈xs) && decide ((j:Int)∈ys))=_
    rw[Bool.not_eq_true]at c
    rw[c,Bool.false_and]
   rw[this];simp
 unfold allF
 rw[List.filter_flatMap]
 have e2:(List.range h).flatMap (λi=>(plRow i w).filter λp=>decide (p.1∈xs) && decide (p.2∈ys))=((List.range h).filter λ(i:Nat)=>decide ((i:Int)∈xs)).flatMap λ(i:Nat)=>ys.map λj=>((i:Int),j):=by
  rw[show (λi=>(plRow i w).filter λp=>decide (p.1∈xs) && decide (p.2∈ys))=λ(i:Nat)=>if decide ((i:Int)∈xs)=true then ys.map λj=>((i:Int),j) else [] from funext e1]
  generalize List.range h=r
  induction r with
  |nil=>rfl
  |cons a r ih=>
   rw[flatMap_cons,ih,filter_cons]
   by_cases c:decide ((a:Int)∈xs)=true
   .rw [if_pos c,if_pos c,flatMap_cons]
   .rw [if_neg c,if_neg c];rfl
 rw[e2]
 unfold pairF
 conv=>lhs;rw[as_filter hx bx]
 rw[List.flatMap_map]
theorem hl_bd {s m:Int}(hs:0<s){h:List Bool}(hm:∀k:Nat,k<h.length↔(k:Int)*s<m){x:Int}(hx:x∈hl s h):0<=x/\x<m:=by
 obtain⟨k,k1,_,rfl⟩:=hl_mem.mp hx
 exact⟨mul_nonneg (by lia) (by lia),(hm k).mp k1⟩
theorem hl_div {s:Int}{h:List Bool}{x:Int}(hx:x∈hl s h):x%s=0:=by
 obtain⟨k,_,_,rfl⟩:=hl_mem.mp hx
 exact Int.mul_emod_left _ _
theorem pair_mem {xs ys:List Int}{p:Int×Int}:p∈pairF xs ys↔p.1∈xs/\p.2∈ys:=by
 unfold pairF
 rw[mem_flatMap]
 constructor
 .rintro ⟨i,hi,hp⟩
  obtain⟨j,hj,rfl⟩:=mem_map.mp hp
  exact⟨hi,hj⟩
 .rintro ⟨a,b⟩
  exact⟨p.1,a,mem_map.mpr ⟨p.2,b,rfl⟩⟩
theorem part_all {fs:List Lf}{hr hc:List Bool}{L h w:Nat}(hmr:∀k:Nat,k<hr.length↔(k:Int)<h)(hmc:∀k:Nat,k<hc.length↔(k:Int)<w)(k:Nat):
  partK fs hr hc L k=(allF h w).filter λp=>decide (p∈partK fs hr hc L k):=by
 have hp:=pow_pos' k
 have nr:∀i:Nat,i<(hsK fs (RH fs hr k) fs.length).length↔(i:Int)*2^k<h:=λi=>by rw[hsK_len];exact RH_m hmr k i
 have nc:∀i:Nat,i<(hsK fs (RH fs hc k) fs.length).length↔(i:Int)*2^k<w:=λi=>by rw[hsK_len];exact RH_m hmc k i
 by_cases c:k<L
 .have e:partK fs hr hc L k=(pairF (hl (2^k) (hsK fs (RH fs hr k) fs.length)) (hl (2^k) (hsK fs (RH fs hc k) fs.length))).filter (oddP (2^k)):=by unfold partK;rw[if_pos c]
  have f:=pair_filter (hl_sorted hp (hsK fs (RH fs hr k) fs.length)) (λx hx=>hl_bd hp nr hx) (hl_sorted hp (hsK fs (RH fs hc k) fs.length)) (λx hx=>hl_bd hp nc hx)
  rw[e]
  conv=>lhs;rw[f,List.filter_filter]
  refine List.filter_congr λp _=>?_
  rw[Bool.eq_iff_iff]
  simp only[mem_filter,pair_mem,and_eq_true,decide_eq_true_eq]
  exact⟨λz=>⟨z.2,z.1⟩,λz=>⟨z.2,z.1⟩⟩
 .have e:partK fs hr hc L k=pairF (hl (2^k) (RH fs hr k)) (hl (2^k) (RH fs hc k)):=by unfold partK;rw[if_neg c]
  have f:=pair_filter (hl_sorted hp (RH fs hr k)) (λx hx=>hl_bd hp (RH_m hmr k) hx) (hl_sorted hp (RH fs hc k)) (λx hx=>hl_bd hp (RH_m hmc k) hx)
  rw[e]
  conv=>lhs;rw[f]
  refine List.filter_congr λp _=>?_
  rw[Bool.eq_iff_iff]
  simp only[pair_mem,and_eq_true,decide_eq_true_eq]
theorem cmpIf_map {α:Type}{C:DT}{Eo:DO}{o:Option Sl}{rest:Dst}{P:OV->Prop}(xs:List α)(g:α->D)(p:α->Bool)(f:α->OV)(hn:xs.length<=1000000)
  (hc:∀x∈xs,∀Q:Bool->Prop,Q (p x)->C (some (.own (.fz (g x)))::rest) Q) (h:∀x∈xs,∀Q:OV->Prop,Q (f x)->Eo (some (.own (.fz (g x)))::rest) Q) (k:P (.nl ((xs.filter p).map f))):CmpIfW (gN 0) C Eo (xs.map g) (o::rest) P:=by
 refine⟨λi M ts=>∃o,M=o::rest/\ts=((xs.take i).filter p).map f,⟨o,rfl,rfl⟩,?_,?_⟩
 .rintro i d M ts hd ⟨o,rfl,rfl⟩
  obtain⟨x,hx,rfl⟩:=mget hd
  obtain⟨hi,e⟩:=List.getElem?_eq_some_iff.mp hx
  have hm:=mem_of_getElem? hx
  refine⟨?_,hc x hm _ ?_⟩
  .have:=length_filter_le p (xs.take i)
   rw[length_take]at this
   rw[length_map];lia
  .have ef:(xs.take (i+1)).filter p=(xs.take i).filter p++(if p x=true then [x] else []):=by
    rw[take_succ_eq_append_getElem hi,e,List.filter_append]
    congr 1
    by_cases z:p x=true
    .rw [if_pos z,filter_cons,if_pos z];rfl
    .rw [if_neg z,filter_cons,if_neg z];rfl
   dsimp only
   rw[ef]
   by_cases z:p x=true
   .rw [if_pos z,if_pos z]
    exact h x hm _ ⟨_,rfl,by rw[map_append];rfl⟩
   .rw [if_neg z,if_neg z,append_nil]
    exact⟨_,rfl,rfl⟩
 .rintro M ts ⟨o,rfl,rfl⟩
  rw[length_map,take_length]
  exact k
def ptO (ps:List (Int×Int)):OV:=.nl (ps.map λp=>.fz (ptD p))
def ptL (ps:List (Int×Int)):D:=.lst (ps.map ptD)
theorem val_ptO {ps:List (Int×Int)}:(ptO ps).val=ptL ps:=by simp only[ptO,ptL,OV.val,OV.vals_eq,map_map,Function.comp_def]
theorem val_iO {xs:List Int}:(iO xs).val=iL xs:=by simp only[iO,iL,OV.val,OV.vals_eq,map_map,Function.comp_def]
theorem vals_iO {g:Nat->List Int}{r:List Nat}:List.map OV.val (r.map λi=>iO (g i))=r.map λi=>iL (g i):=by
 rw[map_map];exact map_congr_left λ_ _=>val_iO
theorem atI_last {α:Type}{g:Nat->α}{n:Nat}:atI ((List.range (n+1)).map g) (-1)=some (g n):=by
 rw[range_succ,map_append];exact atI_neg1 _ _
abbrev s_divided:Stmt:=top 43
theorem sc_divided:FnScope ["numbers","stride"] ["numbers","stride"] (defScope s_divided):=by walk_at "S"
def sp_divided:DSp:=λds P=>∃(xs:List Int) (s:Int),ds=[iL xs,.int s]/\0<s/\xs.length<=1000/\P (iO (xs.filter λx=>decide (x%s=0)))
theorem ok_divided {f:Addr}{fd:FuncData}(Df:DefAt K mg "divided" s_divided f fd)(B:BltV mg)(KV:KitV K):
  Cal P w K mg base "divided" 1 ["numbers","stride"] (spV K 2 sp_divided):=by
 refine CalV.of Df sc_divided (by walk_at "b") rfl (λc A o s H E hr=>⟨_,_,(pss_one (ps_ret (pe_compIf rfl (pi_list (pv 0)) (show BlkScope (defScope s_divided) _ from⟨rfl,by decide +kernel,by decide +kernel,by decide +kernel⟩) (N:=["number","stride"]) (ix:=[none,some 1]) (show CapOf _ _ _ _ from⟨⟨rfl,rfl,.inl rfl⟩,trivial⟩) (λ_ _ _=>(pg_name (i:=0) (show List.Nodup (["number","stride"]:List Str) by decide +kernel) rfl (Or.inl rfl))) (λ_ _ _=>(pt_cmpR op_eq (pe_op op_mod (pv 0) (pv 1)) pe_int (nomark _))) (λ_ _ _=>(pv 0))))),
  (sS_ret (sO_compIf (sI_list sF_var) sG_name (sT_test (sF_op oS_eq (sB_f (sF_op oS_i sB_var sB_var)) (sB_f sF_int))) (sO_f sF_var))),?_⟩)
 rintro ds Pr ⟨xs,s,rfl,hs,hl,k⟩
 simp only[iL]
 fin2
 refine cmpIf_map xs D.int _ (λx=>.fz (.int x)) (by lia) (λx _ Q q=>?_) (λx _ Q q=>?_) k
 .fin2
  exact⟨hs,q⟩
 .fin2
  exact q
abbrev s_pairs:Stmt:=top 44
theorem sc_pairs:FnScope ["rows","columns","found","i"] ["rows","columns"] (defScope s_pairs):=by walk_at "S"
def sp_pairs:DSp:=λds P=>∃xs ys:List Int,ds=[iL xs,iL ys]/\xs.length<=100/\ys.length<=100/\P (ptO (pairF xs ys))
theorem pairF_len {xs ys:List Int}:(pairF xs ys).length=xs.length*ys.length:=by
 unfold pairF
 induction xs with
 |nil=>simp
 |cons x xs ih=>rw[flatMap_cons,length_append,ih,length_map,length_cons,succ_mul];lia
theorem ok_pairs {f:Addr}{fd:FuncData}(Df:DefAt K mg "pairs" s_pairs f fd)(B:BltV mg)(KV:KitV K):
  Cal P w K mg base "pairs" 1 ["rows","columns"] (spV K 2 sp_pairs):=by
 refine CalV.of Df sc_pairs (by walk_at "b") rfl (λc A o s H E hr=>⟨_,_,(pss_cons (ps_set (i:=2) sc_pairs.nd rfl (Or.inl rfl) (pe_lstS pa_nil))
   (pss_cons (ps_for PassesOwn.never rfl (pi_list (pv 0)) (pg_name (i:=3) sc_pairs.nd rfl (Or.inr rfl)) (pss_one (ps_expr (pe_bm plainAttrs_list slot_list_extend type_list_extend mt_extendS (pv 2) (pa_cons (pe_comp rfl (pi_list (pv 1)) (show BlkScope (defScope s_pairs) _ from⟨rfl,by decide +kernel,by decide +kernel,by decide +kernel⟩) (N:=["j","i"]) (ix:=[none,some 3]) (show CapOf _ _ _ _ from⟨⟨rfl,rfl,.inl rfl⟩,trivial⟩) (λ_ _ _=>(pg_name (i:=0) (show List.Nodup (["j","i"]:List Str) by decide +kernel) rfl (Or.inl rfl))) (λ_ _ _=>(pe_tupS (pa_cons (pv 1) (pa_cons (pv 0) pa_nil))))) pa_nil)))))
   (pss_one (ps_ret (pv 2))))),
  (sS_seq (sS_set (sO_lst sAO_nil))
   (sS_seq (sS_for (sI_list sF_var) sG_name (sS_ext (sF_o (sO_comp (sI_list sF_var) sG_name (sO_f (sF_tup (sAF_cons sF_var (sAF_cons sF_var sAF_nil))))))))
   sS_retV)),?_⟩)
 rintro ds Pr ⟨xs,ys,rfl,hx,hy,k⟩
 simp only[iL]
 gn_on
 gp_on
 gn_on
 refine⟨λi M=>∃o3,M=[vD (iL xs),vD (iL ys),some (.own (ptO (pairF (xs.take i) ys))),o3],⟨none,by simp[iL,ptO,pairF]⟩,?_,?_⟩
 .rintro i d M hd ⟨o3,rfl⟩
  obtain⟨x,hxi,rfl⟩:=mget hd
  obtain⟨hi,e⟩:=List.getElem?_eq_some_iff.mp hxi
  have ef:pairF (xs.take (i+1)) ys=pairF (xs.take i) ys++ys.map λj=>(x,j):=by
   unfold pairF
   rw[take_succ_eq_append_getElem hi,e,List.flatMap_append]
   simp
  have hlen:=pairF_len (xs:=xs.take i) (ys:=ys)
  have h2:(xs.take i).length*ys.length<=100*100:=mul_le_mul (by rw[length_take];lia) hy
  dsimp only
  rw[ef]
  generalize pairF (xs.take i) ys=cur at hlen
  simp only[iL,ptO]
  fin2
  refine CmpW.map ys D.int (λj=>.fz (ptD (x,j))) (by lia) (λy _ Q q=>?_) ?_
  .fin2
   exact q
  .fin2
   simp only[val_fzG]
   refine⟨by lia,some (.own (.fz (.int x))),?_⟩
   rw[map_append,map_map,map_map]
   rfl
 .rintro M ⟨o3,rfl⟩
  rw[length_map,take_length]
  dsimp only
  gp_on
  simp only[iL,ptO]
  fin2
  exact k
abbrev s_is_run:Stmt:=top 42
theorem sc_is_run:FnScope ["start","many","most"] ["start","many","most"] (defScope s_is_run):=by walk_at "S"
def sp_is_run:DSp:=λds P=>∃a b c:Int,ds=[.int a,.int b,.int c]/\0<=a/\1<=b/\a+b<=c/\P (.fz (.bl true))
theorem ok_is_run {f:Addr}{fd:FuncData}(Df:DefAt K mg "is_run" s_is_run f fd)(B:BltV mg)(KV:KitV K):
  Cal P w K mg base "is_run" 1 ["start","many","most"] (spV K 3 sp_is_run):=by
 refine CalV.of Df sc_is_run (by walk_at "b") rfl (λc A o s H E hr=>⟨_,_,(pss_one (ps_ret (pe_and (pe_cmpR op_ge (pv 0) pe_int (nomark _)) (pe_and (pe_cmpR op_ge (pv 1) pe_int (nomark _)) (pe_one (pe_cmpR op_le (pe_op op_add (pv 0) (pv 1)) (pv 2) (nomark _))))))),
  (sS_ret (sO_f (sF_andV (sF_op oS_b0 sB_var (sB_f sF_int)) (sF_andV (sF_op oS_b0 sB_var (sB_f sF_int)) (sF_op oS_b0 (sB_f (sF_op oS_i0 sB_var sB_var)) sB_var))))),?_⟩)
 rintro ds Pr ⟨a,b,c,rfl,h1,h2,h3,k⟩
 fin2
 rw[if_pos h1,if_pos h2,decide_eq_true h3]
 exact k
abbrev s_cone:Stmt:=top 45
theorem sc_cone:FnScope ["head","top","left","high","wide","rows","columns","found","k","stride","twice","own"] ["head","top","left","high","wide"] (defScope s_cone):=by walk_at "S"
def sp_cone:DSp:=λds P=>∃(h w L n t l hh ww:Nat) (fs:List Lf),ds=[hdD h w L n fs,.int t,.int l,.int hh,.int ww]/\(1<=hh/\t+hh<=h/\h<=64)/\(1<=ww/\l+ww<=w/\w<=64)/\L<=6/\(∀f∈fs,f.Ok)/\fs.length<=6/\
 P (ptO (partK fs (runH h t hh) (runH w l ww) L L++foundK fs (runH h t hh) (runH w l ww) L L))
theorem ok_cone {f:Addr}{fd:FuncData}(Df:DefAt K mg "cone" s_cone f fd)(B:BltV mg)(KV:KitV K)(g_LEVELS:∃t,mg "LEVELS"=some (.int 2 t))(g_HIGH:∃t,mg "HIGH"=some (.int 0 t))(g_WIDE:∃t,mg "WIDE"=some (.int 1 t))(g_LADDER:∃t,mg "LADDER"=some (.int 4 t))(c_is_run:Cal P w K mg base "is_run" 1 ["start","many","most"] (spV K 3 sp_is_run))(c_needs:Cal P w K mg base "needs" 3 ["wanted","ladder","many","stride"] (spV K 4 sp_needs))(c_pairs:Cal P w K mg base "pairs" 1 ["rows","columns"] (spV K 2 sp_pairs))(c_divided:Cal P w K mg base "divided" 1 ["numbers","stride"] (spV K 2 sp_divided)):
  Cal P w K mg base "cone" 4 ["head","top","left","high","wide"] (spV K 5 sp_cone):=by
 refine CalV.of Df sc_cone (by walk_at "b") rfl (λc A o s H E hr=>⟨_,_,(pss_cons (ps_if (pw_or (pt_not (pt_val (pe_cal c_is_run (hr.mono (by decide)) (by rfl) (pa_cons (pv 1) (pa_cons (pv 3) (pa_cons (pe_ix ix_tup (pv 0) (pe_globI (by rfl) g_HIGH) (λ_ _=>rfl)) pa_nil)))))) (pw_or1 (pt_not (pt_val (pe_cal c_is_run (hr.mono (by decide)) (by rfl) (pa_cons (pv 2) (pa_cons (pv 4) (pa_cons (pe_ix ix_tup (pv 0) (pe_globI (by rfl) g_WIDE) (λ_ _=>rfl)) pa_nil)))))))).pt (pss_one ps_never) pss_nil)
   (pss_cons (ps_set (i:=5) sc_cone.nd rfl (Or.inl rfl) (pe_listR2 rfl B.list rfl B.range (pa_cons (pv 1) (pa_cons (pe_op op_add (pv 1) (pv 3)) pa_nil))))
   (pss_cons (ps_set (i:=6) sc_cone.nd rfl (Or.inl rfl) (pe_listR2 rfl B.list rfl B.range (pa_cons (pv 2) (pa_cons (pe_op op_add (pv 2) (pv 4)) pa_nil))))
   (pss_cons (ps_set (i:=7) sc_cone.nd rfl (Or.inl rfl) (pe_lstS pa_nil))
   (pss_cons (ps_for PassesOwn.never rfl (pi_range1 (by rfl) (by exact B.range) (pa_cons (pe_ix ix_tup (pv 0) (pe_globI (by rfl) g_LEVELS) (λ_ _=>rfl)) pa_nil)) (pg_name (i:=8) sc_cone.nd rfl (Or.inl rfl)) (pss_cons (ps_set (i:=9) sc_cone.nd rfl (Or.inl rfl) (pe_op op_shl pe_int (pv 8)))
   (pss_cons (ps_set (i:=5) sc_cone.nd rfl (Or.inl rfl) (pe_ix ix_list (pe_cal c_needs (hr.mono (by decide)) (by rfl) (pa_cons (pv 5) (pa_cons (pe_ix ix_tup (pv 0) (pe_globI (by rfl) g_LADDER) (λ_ _=>rfl)) (pa_cons (pe_ix ix_tup (pv 0) (pe_globI (by rfl) g_HIGH) (λ_ _=>rfl)) (pa_cons (pv 9) pa_nil))))) (pe_un un_neg pe_int) (λ_ _=>rfl)))
   (pss_cons (ps_set (i:=6) sc_cone.nd rfl (Or.inl rfl) (pe_ix ix_list (pe_cal c_needs (hr.mono (by decide)) (by rfl) (pa_cons (pv 6) (pa_cons (pe_ix ix_tup (pv 0) (pe_globI (by rfl) g_LADDER) (λ_ _=>rfl)) (pa_cons (pe_ix ix_tup (pv 0) (pe_globI (by rfl) g_WIDE) (λ_ _=>rfl)) (pa_cons (pv 9) pa_nil))))) (pe_un un_neg pe_int) (λ_ _=>rfl)))
   (pss_cons (ps_set (i:=10) sc_cone.nd rfl (Or.inr rfl) (pe_op op_mul pe_int (pv 9)))
   (pss_cons (ps_setCompIf (i:=11) sc_cone.nd rfl (Or.inl rfl) rfl (pi_list (pe_cal c_pairs (hr.mono (by decide)) (by rfl) (pa_cons (pv 5) (pa_cons (pv 6) pa_nil)))) (show BlkScope (defScope s_cone) _ from⟨rfl,by decide +kernel,by decide +kernel,by decide +kernel⟩) (N:=["place","twice"]) (ix:=[none,some 10]) (show CapOf _ _ _ _ from⟨⟨rfl,rfl,.inl rfl⟩,trivial⟩) (λ_ _ _=>(pg_name (i:=0) (show List.Nodup (["place","twice"]:List Str) by decide +kernel) rfl (Or.inl rfl))) (λ_ _ _=>(pw_or (pt_cmpR op_ne (pe_op op_mod (pe_ix ix_tup (pv 0) pe_int (λ_ _=>rfl)) (pv 1)) pe_int (nomark _)) (pw_or1 (pt_cmpR op_ne (pe_op op_mod (pe_ix ix_tup (pv 0) pe_int (λ_ _=>rfl)) (pv 1)) pe_int (nomark _)))).pt) (λ_ _ _=>(pv 0)))
   (pss_cons (ps_set (i:=7) sc_cone.nd rfl (Or.inl rfl) (pe_op op_catS (pv 11) (pv 7)))
   (pss_cons (ps_set (i:=5) sc_cone.nd rfl (Or.inl rfl) (pe_cal c_divided (hr.mono (by decide)) (by rfl) (pa_cons (pv 5) (pa_cons (pv 10) pa_nil))))
   (pss_one (ps_set (i:=6) sc_cone.nd rfl (Or.inl rfl) (pe_cal c_divided (hr.mono (by decide)) (by rfl) (pa_cons (pv 6) (pa_cons (pv 10) pa_nil)))))))))))))
   (pss_one (ps_ret (pe_op op_catS (pe_cal c_pairs (hr.mono (by decide)) (by rfl) (pa_cons (pv 5) (pa_cons (pv 6) pa_nil))) (pv 7))))))))),
  (sS_seq (sS_if (sT_or (sT_not (sT_b (sF_o (sO_call (sAF_cons sF_var (sAF_cons sF_var (sAF_cons (sF_opF oF_ixT sF_var sF_int) sAF_nil))))))) (sT_not (sT_b (sF_o (sO_call (sAF_cons sF_var (sAF_cons sF_var (sAF_cons (sF_opF oF_ixT sF_var sF_int) sAF_nil)))))))) sS_never sS_next)
   (sS_seq (sS_set (sO_f (sF_o (sO_listR2 (sAB_cons sB_var (sAB_cons (sB_f (sF_op oS_i0 sB_var sB_var)) sAB_nil))))))
   (sS_seq (sS_set (sO_f (sF_o (sO_listR2 (sAB_cons sB_var (sAB_cons (sB_f (sF_op oS_i0 sB_var sB_var)) sAB_nil))))))
   (sS_seq (sS_set (sO_f (sF_o (sO_lst sAO_nil))))
   (sS_seq (sS_for (sI_rng1 (sAB_cons (sB_op (OpF.b oF_ixT) sB_var (sB_f sF_int)) sAB_nil)) sG_name (sS_seq (sS_set (sO_f (sF_op oS_i (sB_f sF_int) sB_var)))
   (sS_seq (sS_set (sO_f (sF_opF oF_ixL (sF_o (sO_call (sAF_cons sF_var (sAF_cons (sF_opF oF_ixT sF_var sF_int) (sAF_cons (sF_opF oF_ixT sF_var sF_int) (sAF_cons sF_var sAF_nil)))))) (sF_neg (sB_f sF_int)))))
   (sS_seq (sS_set (sO_f (sF_opF oF_ixL (sF_o (sO_call (sAF_cons sF_var (sAF_cons (sF_opF oF_ixT sF_var sF_int) (sAF_cons (sF_opF oF_ixT sF_var sF_int) (sAF_cons sF_var sAF_nil)))))) (sF_neg (sB_f sF_int)))))
   (sS_seq (sS_set (sO_f (sF_op oS_i (sB_f sF_int) sB_var)))
   (sS_seq (sS_set (sO_f (sF_o (sO_compIf (sI_list (sF_o (sO_call (sAF_cons sF_var (sAF_cons sF_var sAF_nil))))) sG_name (sT_or (sT_test (sF_op oS_ne (sB_f (sF_op oS_i (sB_op (OpF.b oF_ixT) sB_var (sB_f sF_int)) sB_var)) (sB_f sF_int))) (sT_test (sF_op oS_ne (sB_f (sF_op oS_i (sB_op (OpF.b oF_ixT) sB_var (sB_f sF_int)) sB_var)) (sB_f sF_int)))) (sO_f sF_var)))))
   (sS_seq (sS_set (sO_f (sF_o (sO_catL sF_var sF_var))))
   (sS_seq (sS_set (sO_f (sF_o (sO_call (sAF_cons sF_var (sAF_cons sF_var sAF_nil))))))
   (sS_set (sO_f (sF_o (sO_call (sAF_cons sF_var (sAF_cons sF_var sAF_nil))))))))))))))
   (sS_ret (sO_catL (sF_o (sO_call (sAF_cons sF_var (sAF_cons sF_var sAF_nil)))) sF_var))))))),?_⟩)
 rintro ds Pr ⟨h,w',L,n,t,l,hh,ww,fs,rfl,⟨a1,a2,a3⟩,⟨b1,b2,b3⟩,hL,oks,hf6,k⟩
 simp only[hdD]
 gn_on
 refine⟨_,_,_,rfl,by lia,by lia,by lia,?_⟩
 fin2
 refine⟨_,_,_,rfl,by lia,by lia,by lia,?_⟩
 fin2
 gp_on
 gn_on
 have rn:∀(a b:Nat),rngN (a:Int) ((a:Int)+b) 1=b:=λa b=>by
  have h1:=rngN_lt (lo:=(a:Int)) (hi:=a+b) (c:=1) (by decide) b
  have h2:=rngN_lt (lo:=(a:Int)) (hi:=a+b) (c:=1) (by decide) (rngN (a:Int) ((a:Int)+b) 1)
  have h3:=rngN_lt (lo:=(a:Int)) (hi:=a+b) (c:=1) (by decide) (rngN (a:Int) ((a:Int)+b) 1-1)
  lia
 have rl:∀(m a b:Nat),a+b<=m->(List.range b).map (λ(k:Nat)=>D.int ((a:Int)+k*1))=(hl 1 (runH m a b)).map D.int:=λm a b hab=>by
  rw[runH_hl hab,map_map]
  refine map_congr_left λk _=>?_
  show D.int ((a:Int)+k*1)=D.int ((a:Int)+k)
  rw[mul_one]
 refine⟨⟨by lia,by lia,by lia,by lia⟩,by rw[rn];lia,?_⟩
 rw[val_fzG,rn,rl h t hh a2]
 gp_on
 gn_on
 refine⟨⟨by lia,by lia,by lia,by lia⟩,by rw[rn];lia,?_⟩
 rw[val_fzG,rn,rl w' l ww b2]
 gp_on
 gn_on
 gp_on
 have hmr:∀k:Nat,k<(runH h t hh).length↔(k:Int)<h:=λk=>by rw[runH_len];omega
 have hmc:∀k:Nat,k<(runH w' l ww).length↔(k:Int)<w':=λk=>by rw[runH_len];omega
 have hrl:(runH h t hh).length<=64:=by rw[runH_len];exact a3
 have hcl:(runH w' l ww).length<=64:=by rw[runH_len];exact b3
 generalize runH h t hh=hr' at *
 generalize runH w' l ww=hc at *
 have pl:∀k,(partK fs hr' hc L k).length<=4096:=λk=>by
  have q:∀(s:Int) (x y:List Bool),x.length<=64->y.length<=64->(pairF (hl s x) (hl s y)).length<=4096:=λs x y hx hy=>by
   rw[pairF_len]
   exact mul_le_mul (Nat.le_trans hl_len hx) (Nat.le_trans hl_len hy)
  unfold partK
  split
  .exact Nat.le_trans (length_filter_le _ _) (q _ _ _ (by rw[hsK_len];exact Nat.le_trans (RH_len k) hrl) (by rw[hsK_len];exact Nat.le_trans (RH_len k) hcl))
  .exact q _ _ _ (Nat.le_trans (RH_len k) hrl) (Nat.le_trans (RH_len k) hcl)
 have fl:∀k,(foundK fs hr' hc L k).length<=4096*k:=λk=>by
  induction k with
  |zero=>exact Nat.le_refl _
  |succ k ih=>
   show (partK fs hr' hc L k++foundK fs hr' hc L k).length<=_
   rw[length_append]
   have:=pl k
   lia
 gn_on
 refine⟨⟨by lia,by lia⟩,λi M=>∃o8 o9 o10 o11,M=[vD (hdD h w' L n fs),vI t,vI l,vI hh,vI ww,vD (iL (hl (2^i) (RH fs hr' i))),vD (iL (hl (2^i) (RH fs hc i))),vD (ptL (foundK fs hr' hc L i)),o8,o9,o10,o11],⟨none,none,none,none,by simp only[hdD,iL,ptL];rfl⟩,?_,?_⟩
 .rintro i d M hd ⟨o8,o9,o10,o11,rfl⟩
  obtain⟨hi,rfl⟩:=rng_inv hd
  have hil:i<L:=by lia
  have e0:0+(i:Int)*1=i:=by lia
  have hsp:=pow_pos' i
  have hs64:(2:Int)^i<=64:=by
   have:2^i<=2^6:=Nat.pow_le_pow_right (by decide) (by lia)
   have e:((2^i:Nat):Int)=(2:Int)^i:=rfl
   lia
  have mr:=RH_m (fs:=fs) hmr i
  have mc:=RH_m (fs:=fs) hmc i
  have lr:=RH_len (fs:=fs) (h:=hr') i
  have lc:=RH_len (fs:=fs) (h:=hc) i
  dsimp only
  simp only[iL,ptL,hdD]
  gn_on
  refine⟨⟨by lia,by lia,by decide⟩,?_⟩
  rw[e0,toNat_natCast,Int.one_mul]
  gp_on
  gn_on
  refine⟨RH fs hr' i,fs,h,2^i,rfl,oks,hf6,⟨hsp,hs64⟩,by lia,mr,?_⟩
  fin2
  rw[vals_iO]
  refine⟨_,atI_last,?_⟩
  gp_on
  gn_on
  refine⟨RH fs hc i,fs,w',2^i,rfl,oks,hf6,⟨hsp,hs64⟩,by lia,mc,?_⟩
  fin2
  rw[vals_iO]
  refine⟨_,atI_last,?_⟩
  gp_on
  gn_on
  gp_on
  have lr':(hl (2^i) (hsK fs (RH fs hr' i) fs.length)).length<=64:=Nat.le_trans hl_len (by rw[hsK_len];lia)
  have lc':(hl (2^i) (hsK fs (RH fs hc i) fs.length)).length<=64:=Nat.le_trans hl_len (by rw[hsK_len];lia)
  gn_on
  refine⟨_,_,rfl,by lia,by lia,?_⟩
  dsimp only
  rw[val_ptO]
  simp only[ptL]
  refine cmpIf_map _ ptD (oddP (2^i)) (λp=>.fz (ptD p)) (by rw[pairF_len];exact Nat.le_trans (mul_le_mul lr' lc') (by decide)) (λp _ Q q=>?_) (λp _ Q q=>?_) ?_
  .simp only[ptD]
   fin2
   have h2:(0:Int)<2*2^i:=by lia
   refine⟨h2,?_⟩
   unfold oddP at q
   by_cases c:p.1%(2*2^i)=0
   .rw [if_neg (by rw[decide_eq_true c];decide)]
    simp only[c,not_true_eq_false,decide_false,Bool.false_or,decide_not]at q
    exact⟨h2,q⟩
   .rw [if_pos (by rw[decide_eq_false c];rfl)]
    simp only[c,not_false_eq_true,decide_true,Bool.true_or]at q
    exact q
  .fin2
   exact q
  have ep:(pairF (hl (2^i) (hsK fs (RH fs hr' i) fs.length)) (hl (2^i) (hsK fs (RH fs hc i) fs.length))).filter (oddP (2^i))=partK fs hr' hc L i:=by unfold partK;rw[if_pos hil]
  rw[ep]
  fin2
  rw[val_fzG]
  gp_on
  gn_on
  have p1:=pl i
  have p2:=fl i
  refine⟨by lia,?_⟩
  rw[<- map_append,map_map,show OV.val∘OV.fz=id from rfl,map_id]
  gp_on
  gn_on
  refine⟨_,_,rfl,by lia,by lia,?_⟩
  try dsimp only
  rw[evens_hl hsp,val_iO]
  gp_on
  fin2
  refine⟨_,_,rfl,by lia,by lia,?_⟩
  try dsimp only
  rw[evens_hl hsp,val_iO]
  have ek:(2:Int)^(i+1)=2*2^i:=by rw[pow_succ,Int.mul_comm]
  rw[ek]
  exact⟨_,_,_,_,rfl⟩
 .rintro M ⟨o8,o9,o10,o11,rfl⟩
  rw[rng_len,show ((L:Int)).toNat=L by lia]
  simp only[iL,ptL,hdD]
  gp_on
  fin2
  have r1:(hl (2^L) (RH fs hr' L)).length<=64:=Nat.le_trans hl_len (Nat.le_trans (RH_len L) hrl)
  have r2:(hl (2^L) (RH fs hc L)).length<=64:=Nat.le_trans hl_len (Nat.le_trans (RH_len L) hcl)
  have ep:pairF (hl (2^L) (RH fs hr' L)) (hl (2^L) (RH fs hc L))=partK fs hr' hc L L:=by unfold partK;rw[if_neg (lt_irrefl _)]
  refine⟨_,_,rfl,by lia,by lia,?_⟩
  rw[ep]
  dsimp only
  rw[val_ptO]
  simp only[ptL]
  have p1:=pl L
  have p2:=fl L
  refine⟨by simp only[length_map];lia,?_⟩
  rw[<- map_append,map_map]
  exact k
def coneL (h w L t l hh ww:Nat)(fs:List Lf):List (Int×Int):=partK fs (runH h t hh) (runH w l ww) L L++foundK fs (runH h t hh) (runH w l ww) L L
def knownL (h w L t l hh ww:Nat)(fs:List Lf)(vs:List Sp2):List Sp2:=((placesF h w L).zip vs).map λp=>if p.1∈coneL h w L t l hh ww fs then p.2 else (0,0)
def sp_piece:DSp:=λds P=>∃(h w L n t l hh ww:Nat) (fs:List Lf) (vs:List Sp2),ds=[hdD h w L n fs,.lst (vs.map spD),.int t,.int l,.int hh,.int ww]/\(1<=hh/\t+hh<=h/\h<=64)/\(1<=ww/\l+ww<=w/\w<=64)/\L<=6/\(∀f∈fs,f.Ok)/\fs.length<=6/\vs.length=h*w/\
 P (.nl (shT spD hh ww λi j=>openF (0,0) (λk=>gLower (0,0) sDown fs (2^k:Nat)) h w L 0 (λi j=>(knownL h w L t l hh ww fs vs).getD (plIx h w L i j) (0,0)) (t+i) (l+j)))
abbrev s_piece:Stmt:=top 46
theorem sc_piece:FnScope ["head","spans","top","left","high","wide","inside","known","rows"] ["head","spans","top","left","high","wide"] (defScope s_piece):=by walk_at "S"
theorem gLower_same {α:Type}{z:α}{G:Lf->α->α->α->α}{fs:List Lf}{s:Int}{h:List Bool}{xs ys:List α}(hs:0<s)(ok:∀f∈fs,f.Ok)(hl':xs.length=ys.length)(hm:∀k:Nat,k<h.length↔(k:Int)*s<xs.length)
  (he:∀x∈hl s (hsK fs h fs.length),xs.getD x.toNat z=ys.getD x.toNat z):∀i,i<=fs.length->∀x∈hl s (hsK fs h (fs.length-i)),(gLowerK z G fs i s xs).getD x.toNat z=(gLowerK z G fs i s ys).getD x.toNat z
 | 0,_=>he
 |i + 1,hi=>λx hx=>by
  have ih:=gLower_same (G:=G) hs ok hl' hm he i (by lia)
  obtain⟨f,hf⟩:∃f,fs[fs.length-1-i]?=some f:=⟨_,getElem?_eq_getElem (by omega)⟩
  have okf:=ok f (mem_of_getElem? hf)
  rw[gLowerK_succ (by lia) hf,gLowerK_succ (by lia) hf]
  have l1:(gLowerK z G fs i s xs).length=xs.length:=gLowerK_len
  have l2:(gLowerK z G fs i s ys).length=xs.length:=gLowerK_len.trans hl'.symm
  have e:hsK fs h (fs.length-i)=nxt f.h (hsK fs h (fs.length-(i+1))):=by
   rw[show fs.length-i=(fs.length-1-i)+1 by lia,hsK_succ hf,show fs.length-(i+1)=fs.length-1-i by lia]
  rw[e]at ih
  have gl:(hsK fs h (fs.length-(i+1))).length=h.length:=hsK_len
  generalize hsK fs h (fs.length-(i+1))=g at hx ih gl
  have hm':∀k:Nat,k<g.length↔(k:Int)*s<xs.length:=λk=>by rw[gl];exact hm k
  have up:=λy hy=>ih y ((found_mem (hf:=f.h) hs hm').mp hy)
  obtain⟨k,h1,h2,rfl⟩:=hl_mem.mp hx
  have a1:=(g_all (z:=z) (G:=G f) (xs:=gLowerK z G fs i s xs) hs okf.h).2
  have a2:=(g_all (z:=z) (G:=G f) (xs:=gLowerK z G fs i s ys) hs okf.h).2
  have k0:0<=(k:Int)*s:=mul_nonneg (by lia) (by lia)
  have hp:((((k:Int)*s).toNat:Nat):Int)=(k:Int)*s:=toNat_of_nonneg k0
  rw[a1,a2,l1,l2,hp]
  by_cases hc:(k:Int)*s∈plcF f.h xs.length s
  .rw [if_pos hc,if_pos hc]
   obtain⟨_,b1,b2,b3⟩:=nb_in hs okf.h hc
   obtain⟨_,_,j,hj⟩:=(plc_mem hs).mp hc
   have hk2:(k:Int)%2=f.h:=by
    have:(k:Int)*s=(f.h+2*j)*s:=by rw[hj,Int.add_mul,Int.mul_comm 2 (j:Int),mul_assoc]
    have:=Int.eq_of_mul_eq_mul_right (by lia) this
    have:=okf.h
    lia
   have hin:∀y,y=nbL ((k:Int)*s) xs.length s∨y=nbR ((k:Int)*s) xs.length s->y∈hl s g++(hl s g).flatMap (extN f.h xs.length s):=λy hy=>by
    refine mem_append_right _ (mem_flatMap.mpr ⟨_,hx,?_⟩)
    unfold extN
    rw[if_pos ⟨by rw[Int.mul_ediv_cancel _ (by lia)];exact hk2,b3⟩]
    rcases hy with rfl |rfl<;>simp
   unfold gThing
   rw[l1,l2,up _ (hin _ (.inl rfl)),up _ (hin _ (.inr rfl)),up _ (mem_append_left _ hx)]
  .rw [if_neg hc,if_neg hc]
   exact up _ (mem_append_left _ hx)
theorem gLower_sameA {α:Type}{z:α}{G:Lf->α->α->α->α}{fs:List Lf}{s:Int}{h:List Bool}{xs ys:List α}(hs:0<s)(ok:∀f∈fs,f.Ok)(hl':xs.length=ys.length)(hm:∀k:Nat,k<h.length↔(k:Int)*s<xs.length)
  (he:∀x∈hl s (hsK fs h fs.length),xs.getD x.toNat z=ys.getD x.toNat z):∀x∈hl s h,(gLower z G fs s xs).getD x.toNat z=(gLower z G fs s ys).getD x.toNat z:=λx hx=>by
 have:=gLower_same (G:=G) hs ok hl' hm he fs.length (Nat.le_refl _) x (by rw[Nat.sub_self];exact hx)
 rwa[gLowerK_all,gLowerK_all]at this
theorem open_same {α:Type}{z:α}{G:Lf->α->α->α->α}{fs:List Lf}{hr hc:List Bool}{h w L:Nat}(ok:∀f∈fs,f.Ok)(hmr:∀k:Nat,k<hr.length↔(k:Int)<h)(hmc:∀k:Nat,k<hc.length↔(k:Int)<w):
  ∀n,n<=L->∀e e':Nat->Nat->α,(∀x∈hl (2^n) (RH fs hr n),∀y∈hl (2^n) (RH fs hc n),e x.toNat y.toNat=e' x.toNat y.toNat)->(∀k,k<n->∀p∈partK fs hr hc L k,e p.1.toNat p.2.toNat=e' p.1.toNat p.2.toNat)->
   ∀x∈hl 1 hr,∀y∈hl 1 hc,openF z (λk=>gLower z G fs (2^k:Nat)) h w n 0 e x.toNat y.toNat=openF z (λk=>gLower z G fs (2^k:Nat)) h w n 0 e' x.toNat y.toNat
 | 0,_,e,e',h1,_=>h1
 |n + 1,hn,e,e',h1,h2=>by
  show ∀x∈hl 1 hr,∀y∈hl 1 hc,(if 0<=n then openF z _ h w n 0 _ else e) x.toNat y.toNat=(if 0<=n then openF z _ h w n 0 _ else e') x.toNat y.toNat
  rw[if_pos (zero_le _),if_pos (zero_le _)]
  have hp:(0:Int)<2^n:=pow_pos' n
  have hpN:0<2^n:=Nat.pos_of_ne_zero (by simp)
  have ec:((2^n:Nat):Int)=(2:Int)^n:=rfl
  have e2:(2:Int)^(n+1)=2*2^n:=by rw[pow_succ,Int.mul_comm]
  have nr:∀i:Nat,i<(hsK fs (RH fs hr n) fs.length).length↔(i:Int)*2^n<h:=λi=>by rw[hsK_len];exact RH_m hmr n i
  have nc:∀i:Nat,i<(hsK fs (RH fs hc n) fs.length).length↔(i:Int)*2^n<w:=λi=>by rw[hsK_len];exact RH_m hmc n i
  have dv:∀{x:Int},0<=x->(x.toNat%2^n=0↔x%2^n=0):=λ{x} hx=>by
   have:((x.toNat%2^n:Nat):Int)=x%2^n:=by rw[Int.natCast_emod,toNat_of_nonneg hx,ec]
   lia
  refine open_same (L:=L) ok hmr hmc n (by lia) _ _ (λx hx y hy=>?_) λk hk p hpk=>?_
  .dsimp only
   have bx:=hl_bd hp (RH_m (fs:=fs) hmr n) hx
   have byy:=hl_bd hp (RH_m (fs:=fs) hmc n) hy
   unfold rowF
   rw[if_pos ((dv bx.1).mpr (hl_div hx)),if_pos ((dv bx.1).mpr (hl_div hx)),ec]
   refine gLower_sameA (s:=2^n) (h:=RH fs hc n) hp ok (by rw[tab_len,tab_len]) (λk=>by rw[tab_len];exact RH_m hmc n k) (λy' hy'=>?_) y hy
   have by':=hl_bd hp nc hy'
   rw[tab_getD (by lia),tab_getD (by lia)]
   unfold colF
   rw[if_pos ((dv by'.1).mpr (hl_div hy')),if_pos ((dv by'.1).mpr (hl_div hy'))]
   refine gLower_sameA (s:=2^n) (h:=RH fs hr n) hp ok (by rw[tab_len,tab_len]) (λk=>by rw[tab_len];exact RH_m hmr n k) (λx' hx'=>?_) x hx
   have bx':=hl_bd hp nr hx'
   rw[tab_getD (by lia),tab_getD (by lia)]
   by_cases hd:x'%(2*2^n)=0/\y'%(2*2^n)=0
   .refine h1 x' ?_ y' ?_
    .rw [e2]
     show x'∈hl (2*2^n) (evens (hsK fs (RH fs hr n) fs.length))
     rw[<- evens_hl hp]
     exact mem_filter.mpr ⟨hx',by simpa using hd.1⟩
    .rw [e2]
     show y'∈hl (2*2^n) (evens (hsK fs (RH fs hc n) fs.length))
     rw[<- evens_hl hp]
     exact mem_filter.mpr ⟨hy',by simpa using hd.2⟩
   .refine h2 n (by lia) (x',y') ?_
    unfold partK
    rw[if_pos (by lia)]
    refine mem_filter.mpr ⟨pair_mem.mpr ⟨hx',hy'⟩,?_⟩
    unfold oddP
    simp only[or_eq_true,decide_eq_true_eq]
    rcases Decidable.em (x'%(2*2^n)=0) with z |z
    .exact .inr λz2=>hd ⟨z,z2⟩
    .exact .inl z
  .have hkp:(0:Int)<2^k:=pow_pos' k
   have hpk':=hpk
   unfold partK at hpk
   rw[if_pos (by lia)]at hpk
   obtain⟨hm,ho⟩:=mem_filter.mp hpk
   obtain⟨m1,m2⟩:=pair_mem.mp hm
   have b1:=hl_bd hkp (λi=>by rw[hsK_len];exact RH_m (fs:=fs) hmr k i) m1
   have b2:=hl_bd hkp (λi=>by rw[hsK_len];exact RH_m (fs:=fs) hmc k i) m2
   have hnd:¬ (p.1%2^n=0/\p.2%2^n=0):=λz=>by
    have hdv:(2:Int)*2^k∣2^n:=by
     obtain⟨m,rfl⟩:∃m,n=(k+1)+m:=⟨n-(k+1),by omega⟩
     refine⟨2^m,?_⟩
     rw[Int.pow_add,pow_succ,Int.mul_comm (2^k) 2]
    have d1:=Int.emod_eq_zero_of_dvd (Int.dvd_trans hdv (Int.dvd_of_emod_eq_zero z.1))
    have d2:=Int.emod_eq_zero_of_dvd (Int.dvd_trans hdv (Int.dvd_of_emod_eq_zero z.2))
    simp[oddP,d1,d2]at ho
   have keep:∀e:Nat->Nat->α,rowF z (gLower z G fs (2^n:Nat)) w (2^n) (colF z (gLower z G fs (2^n:Nat)) h (2^n) e) p.1.toNat p.2.toNat=e p.1.toNat p.2.toNat:=λe=>by
    have off:∀(r:List α) (i:Nat),i%2^n≠0->(gLower z G fs (2^n:Nat) r).getD i z=r.getD i z:=λr i hi=>gFold_off (z:=z) (G:=G) hpN hi fs.reverse r λf hf=>ok f (mem_reverse.mp hf)
    by_cases c1:p.1.toNat%2^n=0
    .have c2:p.2.toNat%2^n≠0:=λc2=>hnd ⟨(dv b1.1).mp c1,(dv b2.1).mp c2⟩
     unfold rowF
     rw[if_pos c1,off _ _ c2,tab_getD (by lia)]
     unfold colF
     rw[if_neg c2]
    .unfold rowF
     rw[if_neg c1]
     unfold colF
     split
     .rw [off _ _ c1,tab_getD (by lia)]
     .rfl
   dsimp only
   rw[keep,keep]
   exact h2 k (by lia) p hpk'
theorem known_get {h w L t l hh ww i j:Nat}{fs:List Lf}{vs:List Sp2}(hi:i<h)(hj:j<w)(hl:vs.length=h*w):(knownL h w L t l hh ww fs vs).getD (plIx h w L i j) (0,0)=if ((i:Int),(j:Int))∈coneL h w L t l hh ww fs then vs.getD (plIx h w L i j) (0,0) else (0,0):=by
 have hlt:=plIx_lt (L:=L) hi hj
 rw[placesF_len]at hlt
 unfold knownL
 rw[getD_eq_getElem?_getD,getElem?_map,getElem?_zip_eq_some (z:=(((i:Int),(j:Int)),vs.getD (plIx h w L i j) (0,0))) |>.mpr ⟨plIx_get hi hj,?_⟩]
 .rfl
 .rw [getD_eq_getElem?_getD,getElem?_eq_getElem (by lia)];rfl
theorem piece_same {h w L t l hh ww:Nat}{fs:List Lf}(ok:∀f∈fs,f.Ok)(a2:t+hh<=h)(b2:l+ww<=w){e e':Nat->Nat->Sp2}(he:∀i j:Nat,i<h->j<w->((i:Int),(j:Int))∈coneL h w L t l hh ww fs->e i j=e' i j):
  ∀i j,i<hh->j<ww->openF (0,0) (λk=>gLower (0,0) sDown fs (2^k:Nat)) h w L 0 e (t+i) (l+j)=openF (0,0) (λk=>gLower (0,0) sDown fs (2^k:Nat)) h w L 0 e' (t+i) (l+j):=λi j hi hj=>by
 have hmr:∀k:Nat,k<(runH h t hh).length↔(k:Int)<h:=λk=>by rw[runH_len];omega
 have hmc:∀k:Nat,k<(runH w l ww).length↔(k:Int)<w:=λk=>by rw[runH_len];omega
 have inn:∀p∈coneL h w L t l hh ww fs,0<=p.1/\p.1<h/\0<=p.2/\p.2<w:=λp hp=>by
  have pk:∀k,p∈partK fs (runH h t hh) (runH w l ww) L k->0<=p.1/\p.1<h/\0<=p.2/\p.2<w:=λk hk=>by
   rw[part_all hmr hmc k]at hk
   exact in_all.mp (mem_filter.mp hk).1
  unfold coneL at hp
  rcases mem_append.mp hp with hp |hp
  .exact pk _ hp
  .rw [foundK_eq]at hp
   obtain⟨ps,h1,h2⟩:=mem_flatten.mp hp
   obtain⟨k,_,rfl⟩:=mem_map.mp (mem_reverse.mp h1)
   exact pk k h2
 have hE:∀p∈coneL h w L t l hh ww fs,e p.1.toNat p.2.toNat=e' p.1.toNat p.2.toNat:=λp hp=>by
  obtain⟨q1,q2,q3,q4⟩:=inn p hp
  refine he _ _ (by lia) (by lia) ?_
  rw[toNat_of_nonneg q1,toNat_of_nonneg q3];exact hp
 have hx:((t+i:Nat):Int)∈hl 1 (runH h t hh):=by rw[runH_hl a2];exact mem_map.mpr ⟨i,mem_range.mpr hi,by lia⟩
 have hy:((l+j:Nat):Int)∈hl 1 (runH w l ww):=by rw[runH_hl b2];exact mem_map.mpr ⟨j,mem_range.mpr hj,by lia⟩
 have:=open_same (L:=L) (z:=((0,0):Sp2)) (G:=sDown) ok hmr hmc L (Nat.le_refl _) e e' (λx hx y hy=>hE (x,y) ?_) (λk hk p hp=>hE p ?_) _ hx _ hy
 .rwa [toNat_natCast,toNat_natCast]at this
 .unfold coneL
  refine mem_append_left _ ?_
  unfold partK
  rw[if_neg (lt_irrefl _)]
  exact pair_mem.mpr ⟨hx,hy⟩
 .unfold coneL
  refine mem_append_right _ ?_
  rw[foundK_eq]
  exact mem_flatten.mpr ⟨_,mem_reverse.mpr (mem_map.mpr ⟨k,mem_range.mpr hk,rfl⟩),hp⟩
theorem coneL_len {h w L t l hh ww:Nat}{fs:List Lf}(a3:h<=64)(b3:w<=64)(hL:L<=6):(coneL h w L t l hh ww fs).length<=50000:=by
 have hp:∀k,(partK fs (runH h t hh) (runH w l ww) L k).length<=4096:=λk=>by
  have q:∀(s:Int) (x y:List Bool),x.length<=64->y.length<=64->(pairF (hl s x) (hl s y)).length<=4096:=λs x y hx hy=>by
   rw[pairF_len]
   exact mul_le_mul (Nat.le_trans hl_len hx) (Nat.le_trans hl_len hy)
  have h1:(RH fs (runH h t hh) k).length<=64:=Nat.le_trans (RH_len k) (by rw[runH_len];exact a3)
  have h2:(RH fs (runH w l ww) k).length<=64:=Nat.le_trans (RH_len k) (by rw[runH_len];exact b3)
  unfold partK
  split
  .exact Nat.le_trans (length_filter_le _ _) (q _ _ _ (by rw[hsK_len];exact h1) (by rw[hsK_len];exact h2))
  .exact q _ _ _ h1 h2
 have hf:∀k,(foundK fs (runH h t hh) (runH w l ww) L k).length<=4096*k:=λk=>by
  induction k with
  |zero=>exact Nat.le_refl _
  |succ k ih=>
   show (partK fs _ _ L k++foundK fs _ _ L k).length<=_
   rw[length_append]
   have:=hp k
   lia
 unfold coneL
 rw[length_append]
 have:=hp L
 have:=hf L
 lia
theorem sel_get {h w L i j:Nat}{C:List (Int×Int)}{f:Sp2->Sp2}{vs:List Sp2}(hi:i<h)(hj:j<w)(hl:vs.length=h*w):(((placesF h w L).zip vs).map λp=>if p.1∈C then p.2 else f p.2).getD (plIx h w L i j) (0,0)=if ((i:Int),(j:Int))∈C then vs.getD (plIx h w L i j) (0,0) else f (vs.getD (plIx h w L i j) (0,0)):=by
 have hlt:=plIx_lt (L:=L) hi hj
 rw[placesF_len]at hlt
 rw[getD_eq_getElem?_getD,getElem?_map,getElem?_zip_eq_some (z:=(((i:Int),(j:Int)),vs.getD (plIx h w L i j) (0,0))) |>.mpr ⟨plIx_get hi hj,?_⟩]
 .rfl
 .rw [getD_eq_getElem?_getD,getElem?_eq_getElem (by lia)];rfl
theorem cut_tab {n a b:Nat}{f:Nat->D}(h:a+b<=n):L2.cutD (tab n f) (some (a:Int)) (some ((a:Int)+b))=tab b λi=>f (a+i):=by
 unfold L2.cutD
 have e1:HT.sIx (tab n f).length 0 (some (a:Int))=a:=by rw[HT.sIx_nat,tab_len];lia
 have e2:HT.sIx (tab n f).length (tab n f).length (some ((a:Int)+b))=a+b:=by
  rw[show ((a:Int)+b)=((a+b:Nat):Int) from rfl,HT.sIx_nat,tab_len];lia
 rw[e1,e2]
 refine ext_getElem? λi=>?_
 rw[List.getElem?_take,List.getElem?_drop]
 by_cases hi:i<b
 .rw [if_pos (by lia),tab_get (by lia),tab_get hi]
 .rw [if_neg (by lia),getElem?_eq_none (by rw[tab_len];lia)]
def SameX (d:Addr)(H H':Hp):Prop:=∀b o,b≠d->H b=some o->H' b=some o
theorem SameX.of {d:Addr}{H H1:Hp}(a:Same H H1):SameX d H H1:=λc o _ e=>a c o e
theorem SameX.same {d:Addr}{F H H1:Hp}(s:Same F H)(fd:F d=none)(a:SameX d H H1):Same F H1:=λc o e=>a c o (λz=>by rw[z,fd]at e;cases e) (s c o e)
def keyT (x y:Int):List Key:=[.inl x,.inl y]
theorem keyT_inj {x y x' y':Int}:keyT x y=keyT x' y'↔x=x'/\y=y':=by
 unfold keyT
 constructor
 .intro e
  injection e with e1 e2
  injection e2 with e2 _
  exact⟨Sum.inl.inj e1,Sum.inl.inj e2⟩
 .rintro ⟨rfl,rfl⟩;rfl
def SR (K:Frag)(F:Hp):L2.St->Dst->Prop
 | [],[]=>True
 |_::O,none::M=>SR K F O M
 |some v::O,some (.own (.fz d))::M=>Rep K F d v/\SR K F O M
 |_,_=>False
theorem SR.len {K:Frag}{F:Hp}:∀{O:L2.St} {M:Dst},SR K F O M->O.length=M.length
 | [],[],_=>rfl
 |_::O,none::M,h=>by
  have h:SR K F O M:=by cases ‹Option V›<;>exact h
  rw[length_cons,length_cons,h.len]
 |some v::O,some (.own (.fz d))::M,h=>by rw[length_cons,length_cons,SR.len h.2]
theorem SR.get {K:Frag}{F:Hp}:∀{O:L2.St} {M:Dst} (i:Nat) (s:Sl),SR K F O M->M[i]?=some (some s)->∃d v,s = .own (.fz d)/\O[i]?=some (some v)/\Rep K F d v
 | [],[],i,s,_,e=>by simp at e
 |_::O,none::M,0,s,_,e=>by simp at e
 |_::O,none::M,i+1,s,h,e=>by
  have h:SR K F O M:=by cases ‹Option V›<;>exact h
  exact h.get i s (by simpa using e)
 |some v::O,some (.own (.fz d))::M,0,s,h,e=>by
  have:.own (.fz d)=s:=by simpa using e
  exact⟨d,v,this.symm,rfl,h.1⟩
 |some v::O,some (.own (.fz d))::M,i+1,s,h,e=>SR.get i s h.2 (by simpa using e)
theorem SR.env {K:Frag}{F H:Hp}{O:L2.St}{M:Dst}(h:SR K F O M)(s:Same F H):EnvR K F H F H O M:=by
 refine⟨λ_=>[],h.len,Ext.refl s,λi t e=>?_,λi d e=>?_,λ_=>nodup_nil,λ_ _ _ _ z=>(by cases z),λ_ _ z=>(by cases z)⟩
 .obtain ⟨d,v,e1,e2,e3⟩:=h.get i _ e
  cases e1
  exact⟨v,e2,rfl,e3⟩
 .obtain ⟨d,v,e1,e2,e3⟩:=h.get i _ e
  cases e1
theorem sim_asg {K:Frag}{te:TE}{E:DE}{D:Ends}{O:L2.St}{M:Dst}{F H:Hp}{i:Nat}{P:L2.D->Prop}(hS:SimF K te E)(hr:SR K F O M)(s:Same F H)(w:E M P)(k:∀d v F1 H1,P d->Ext F H F1 H1->Rep K F1 d v->D.nx (O.set i (some v)) H1):tAsg te (gName i) D O H:=hS F H F H O M P _ (hr.env s) w k
theorem reps_snoc {K:Frag}{F:Hp}{d:D}{v:V}:∀{ds:List D} {vs:List V},Reps K F ds vs->Rep K F d v->Reps K F (ds++[d]) (vs++[v])
 | [],_,h,r=>by cases h;exact⟨v,[],rfl,r,rfl⟩
 |e::ds,_,h,r=>by
  obtain⟨u,us,rfl,h1,h2⟩:=h
  exact⟨u,us++[v],rfl,h1,reps_snoc h2 r⟩
theorem pairs_of {K:Frag}{F:Hp}:∀{ps:List (Int×Int)} {vs:List V},Reps K F (ps.map λp=>D.tup [ptD p,.bl true]) vs->∃(bs:List Addr) (cs:List (List Key×Addr)),vs=bs.map V.ref/\bs.length=cs.length/\cs.map (·.1)=ps.map (λp=>keyT p.1 p.2)/\
  ∀(j:Nat) b c,bs[j]?=some b->cs[j]?=some c->SqT K F b [.ref c.2,.bl true]/\SqT K F c.2 (c.1.map kV)
 | [],vs,h=>by
  cases h
  exact⟨[],[],rfl,rfl,rfl,λj b c e=>by simp at e⟩
 |p :: ps,vs,h=>by
  obtain⟨v,us,rfl,⟨b,ws,rfl,s1,r1⟩,h2⟩:=h
  obtain⟨bs,cs,rfl,e1,e2,e3⟩:=pairs_of h2
  obtain⟨v1,_,rfl,⟨c,xs,rfl,s2,r2⟩,_,_,rfl,rfl,rfl⟩:=r1
  obtain⟨_,_,rfl,rfl,_,_,rfl,rfl,rfl⟩:=r2
  refine⟨b::bs,(keyT p.1 p.2,c)::cs,rfl,by simp[e1],by simp[e2],λj b' c' hb hc=>?_⟩
  cases j with
  |zero=>
   cases hb;cases hc
   exact⟨s1,s2⟩
  |succ j=>exact e3 j b' c' hb hc
theorem dict_stmt {P:Program}{w:World}{K:Frag}{F0 H0 F H:Hp}{tc:TE}{Ec:DO}{Dn:Ends}{O:L2.St}{M:Dst}{i:Nat}{ps:List (Int×Int)}(hc:SimOx K F0 H0 tc Ec)(en:EnvR K F0 H0 F H O M)(wc:Ec M λo=>o=ptO ps)(hl:ps.length<=100000)
  (k:∀d F2 H2 ys,Ext F H F2 H2->F2 d=none->H2 d=some (.ext (DictS P w d ys))->(∀y∈ys,SqT K F2 y.2.1 (y.1.map kV))->(∀k,(atKey ys k).isSome=ps.any λp=>decide (k=keyT p.1 p.2))->Dn.nx (O.set i (some (.ref d))) H2):
  tAsg (tCB (rDictT P w K) (tCons (tComp (iList K tc) [none] (gName 0) (tTupS (tCons (tVar 0) (tCons (tC (V.bl true)) tNil)))) tNil)) (gName i) Dn O H:=by
 refine hc F H O M _ _ en wc λo vc F1 H1 e x1 n1=>?_
 subst e
 obtain⟨F2,x2,_,r2⟩:=n1.frz x1
 rw[val_ptO]at r2
 have z:tComp (iList K (tVar 0)) [none] (gName 0) (tTupS (tCons (tVar 0) (tCons (tC (V.bl true)) tNil))) [some vc] H1 (λv H'=>tNil O H' λxs H2=>rDictT P w K (v::xs) H2 λx H1=>gName i x O H1 Dn.nx):=by
  refine (sO_comp (ix:=[none]) (sI_list (K:=K) (sF_var (i:=0))) sG_name (sO_f (sF_tup (sAF_cons sF_var (sAF_cons sF_bl sAF_nil))))) F2 H1 F2 H1 [some vc] [vD (ptL ps)] (λo=>o = .nl (ps.map λp=>.fz (.tup [ptD p,.bl true]))) _ (SR.env (K:=K) ⟨r2,trivial⟩ x2.fh) ?_ λr v F3 H3 e x3 n3=>?_
  .simp only[ptL]
   fin2
   refine CmpW.map ps ptD (λp=>.fz (.tup [ptD p,.bl true])) (by omega) (λp _ Q q=>?_) rfl
   fin2
   exact q
  .subst e
   obtain⟨A,⟨a,vs,B,rfl,rfl,ha,hB⟩,nd,nw⟩:=n3
   have e2:(ps.map λp=>OV.fz (.tup [ptD p,.bl true]))=(ps.map λp=>D.tup [ptD p,.bl true]).map OV.fz:=by rw[map_map];rfl
   rw[e2]at hB
   obtain⟨hR,rfl⟩:=RepOs.reps hB
   have hvl:vs.length=ps.length:=by have:=hR.length;simpa using this.symm
   obtain⟨bs,cs,rfl,c1,c2,c3⟩:=pairs_of hR
   have hbl:bs.length=ps.length:=by simpa using hvl
   have x13:=x2.trans x3
   refine⟨a,bs,cs,rfl,ha,c1,by omega,λj b c hb hcj=>?_,λd H4 ys d0 s4 d4 hys hat=>?_⟩
   .obtain ⟨z1,z2⟩:=c3 j b c hb hcj
    exact⟨x3.fh.seqT z1,x3.fh.seqT z2⟩
   .have f3:F3 d=none:=x3.fh.free d0
    refine k d F3 H4 ys (x13.trans (Ext.grow x3.fh s4)) f3 d4 (λy hy=>?_) λk'=>?_
    .obtain ⟨c,hc,e1,e2⟩:=hys y hy
     obtain⟨j,hj,e⟩:=List.getElem_of_mem hc
     rw[e1,e2]
     exact (c3 j bs[j] c (getElem?_eq_getElem (by omega)) (by rw[getElem?_eq_getElem hj,e])).2
    .rw [hat]
     have:(cs.any λc=>decide (k'=c.1))=(cs.map (·.1)).any λc=>decide (k'=c):=by rw[any_map];rfl
     rw[this,c2,any_map];rfl
 obtain⟨_,hv,z⟩:=z
 cases hv
 exact z
theorem known_stmt {P:Program}{w:World}{K:Frag}{F H:Hp}{ta:TA}{As:DA}{Dn:Ends}{O:L2.St}{M:Dst}{d:Addr}{ps:List (Int×Int)}{us:List Sp2}{C:List (Int×Int)}{ys:List (List Key×Addr×Value)}(ha:SimAF K ta As)(en:EnvR K F H F H O M)
  (wa:As M λds=>ds=[ptL ps,.lst (us.map spD)]) (hl:ps.length=us.length) (hz:us.length<=100000) (h6:O[6]?=some (some (.ref d))) (fd:F d=none) (hd:H d=some (.ext (DictS P w d ys))) (hys:∀y∈ys,SqT K F y.2.1 (y.1.map kV)) (hat:∀k,(atKey ys k).isSome=C.any λp=>decide (k=keyT p.1 p.2))
  (k:∀v F2 H2,Ext F H F2 H2->Rep K F2 (.lst (((ps.zip us).map λp=>if p.1∈C then p.2 else (0,0)).map spD)) v->Dn.nx (O.set 7 (some v)) H2):
  tAsg (tComp (iZip K ta) [none,none,some 6] (gTup K 2 (gCons (gName 0) (gCons (gName 1) gNil))) (tIf (tB (tDInX P w K (tVar 0) (tVar 2))) (tVar 1) (tGl K (.tup [.int 0,.int 0])))) (gName 7) Dn O H:=by
 refine ha F H F H O M _ _ en wa λds vs F1 H1 e x1 r1=>?_
 subst e
 obtain⟨_,_,rfl,⟨a1,xs1,rfl,s1,q1⟩,_,_,rfl,⟨a2,xs2,rfl,s2,q2⟩,rfl⟩:=r1
 have l1:xs1.length=ps.length:=by have:=q1.length;simpa using this.symm
 have l2:xs2.length=us.length:=by have:=q2.length;simpa using this.symm
 refine⟨a1,a2,xs1,xs2,rfl,x1.fh.seq s1,x1.fh.seq s2,λD' hD'=>?_⟩
 have fD:F1 D'=none:=x1.fh.free hD'
 have hdne:D'≠d:=λz=>by rw[z,x1.hh _ _ hd]at hD';cases hD'
 have hbl:blkσ [none,none,some 6] O=[none,none,some (.ref d)]:=by
  show [none,none,(O[6]?).join]=_
  rw[h6];rfl
 rw[hbl]
 refine⟨λi m O2 zs H3=>m+i=us.length/\SameX D' H1 H3/\H3 D'=some (.lst zs)/\Reps K F1 ((((ps.zip us).take i).map λp=>if p.1∈C then p.2 else (0,0)).map spD) zs/\∃o o',O2=[o,o',some (.ref d)],⟨us.length,rfl,λb o hb e=>by rw[upd_ne hb];exact e,upd_same,rfl,none,none,rfl⟩,?_⟩
 rintro i m O2 zs H3 ⟨hmi,sx,hD3,rz,o,o',rfl⟩
 have f3:Same F1 H3:=sx.same x1.fh fD
 have zl:zs.length<=i:=by
  have:=rz.length
  simp only[length_map,length_take]at this
  lia
 rcases lt_or_ge i us.length with hi |hi
 .refine .inr ⟨Nat.lt_of_le_of_lt zl (lt_of_lt_of_le hi (Nat.le_trans hz (sz_le (by decide)))),⟨f3.seq s1,f3.seq s2,by omega,by omega⟩,?_⟩
  rintro x H4 ⟨p,y1,y2,rfl,hp,s4,e1,e2,hp4⟩
  obtain⟨v1,g1,rv1⟩:=q1.get (i:=i) (d:=ptD ps[i]) (by rw[getElem?_map,getElem?_eq_getElem (by omega)];rfl)
  obtain⟨v2,g2,rv2⟩:=q2.get (i:=i) (d:=spD us[i]) (by rw[getElem?_map,getElem?_eq_getElem hi];rfl)
  rw[e1]at g1
  cases g1
  rw[e2]at g2
  cases g2
  have f4:Same F1 H4:=f3.trans s4
  have hD4:H4 D'=some (.lst zs):=s4 _ _ hD3
  refine⟨p,_,rfl,.inl (.inl hp4),rfl,_,_,rfl,_,_,rfl,rfl,?_⟩
  obtain⟨b,cs,rfl,sb,rb⟩:=rv1
  obtain⟨_,_,rfl,rfl,_,_,rfl,rfl,rfl⟩:=rb
  have hd4:H4 d=some (.ext (DictS P w d ys)):=s4 _ _ (sx d _ (Ne.symm hdne) (x1.hh _ _ hd))
  refine⟨_,rfl,_,rfl,d,b,ys,keyT ps[i].1 ps[i].2,rfl,rfl,hd4,λy hy=>(x1.ff.trans f4).seqT (hys y hy),f4.seqT sb,_,rfl,?_⟩
  have hc:(atKey ys (keyT ps[i].1 ps[i].2)).isSome=decide (ps[i]∈C):=by
   rw[hat,Bool.eq_iff_iff,any_eq_true,decide_eq_true_eq]
   constructor
   .rintro ⟨c,hc,e⟩
    obtain⟨z1,z2⟩:=keyT_inj.mp (of_decide_eq_true e)
    rw[show ps[i]=c from Prod.ext z1 z2];exact hc
   .exact λz=>⟨_,z,decide_eq_true rfl⟩
  rw[hc]
  dsimp only
  have htk:((ps.zip us).take (i+1))=(ps.zip us).take i++[(ps[i],us[i])]:=by
   rw[take_succ_eq_append_getElem (by rw[length_zip];omega),List.getElem_zip]
  have fin:∀(y:V) (o o':Option V),Rep K F1 (spD (if ps[i]∈C then us[i] else (0,0))) y->H4 D'=some (.lst zs)/\∃m',m'<m/\m'+(i+1)=us.length/\SameX D' H1 (upd H4 D' (.lst (zs++[y])))/\upd H4 D' (.lst (zs++[y])) D'=some (.lst (zs++[y]))/\Reps K F1 ((((ps.zip us).take (i+1)).map λp=>if p.1∈C then p.2 else (0,0)).map spD) (zs++[y])/\∃o2 o2',[o,o',some (V.ref d)]=[o2,o2',some (.ref d)]:=λy o o' ry=>
   ⟨hD4,m-1,by omega,by omega,λb u hb e=>by rw[upd_ne hb];exact s4 _ _ (sx b u hb e),upd_same,by rw[htk,map_append,map_append];exact reps_snoc rz ry,_,_,rfl⟩
  by_cases hC:ps[i]∈C
  .rw [if_pos (by simpa using hC)]
   rw[if_pos hC]at fin
   exact⟨_,rfl,fin _ _ _ rv2⟩
  .rw [if_neg (by simpa using hC)]
   rw[if_neg hC]at fin
   exact λv hv=>fin v _ _ (hv F1)
 .refine .inl ⟨⟨f3.seq s1,f3.seq s2,by omega⟩,?_⟩
  rw[take_of_length_le (by rw[length_zip];omega)]at rz
  have hHD:H D'=none:=x1.hh.free hD'
  refine k (.ref D') (upd F1 D' (.lst zs)) H3 ⟨λb u e=>?_,λb u e=>?_,λb u e=>?_,λb u z1 z2 z3=>?_⟩ ⟨D',zs,rfl,.inl (.inl upd_same),rz.mono (Same.upd' fD)⟩
  .rw [upd_ne (λz=>by have:=x1.ff b u e;rw[z,fD]at this;cases this)];exact x1.ff b u e
  .exact sx b u (λz=>by rw[z,hHD]at e;cases e) (x1.hh b u e)
  .by_cases hb:b=D'
   .subst hb;rw[upd_same]at e;cases e;exact hD3
   .rw [upd_ne hb]at e;exact f3 b u e
  .rw [upd_ne (λz=>by rw[z,hHD]at z2;cases z2)];exact x1.no b u z1 z2 z3
theorem ok_piece {f:Addr}{fd:FuncData}(Df:DefAt K mg "piece" s_piece f fd)(B:BltV mg)(KV:KitV K)(g_LEFT_OUT:TupC K mg "LEFT_OUT" (D.tup [.int 0,.int 0]))(c_cone:Cal P w K mg base "cone" 4 ["head","top","left","high","wide"] (spV K 5 sp_cone))(c_head_places:Cal P w K mg base "head_places" 3 ["head"] (spV K 1 sp_head_places))(c_level:Cal P w K mg base "level" 7 ["head","spans","k"] (spV K 3 sp_level)):
  Cal P w K mg base "piece" 8 ["head","spans","top","left","high","wide"] (spV K 6 sp_piece):=by
 refine Cal.of Df sc_piece (by walk_at "b") (λvs H Q E h=>h.1) λcdv A outer s H vs Q E hr h=>⟨tSeq _ (tSeq (tAsg (tComp (iZip K _) [none,none,some 6] (gTup K 2 (gCons (gName 0) (gCons (gName 1) gNil))) (tIf (tB (tDInX P w K (tVar 0) (tVar 2))) (tVar 1) (tGl K (.tup [.int 0,.int 0])))) (gName 7)) (tSeq (tAsg (tSl (rSlS K) _ (tPart (tVar 2)) (tPart (tOp (rI0 λi j=>V.int (i+j)) (tVar 2) (tVar 4)))) (gName 8)) (tRet (tComp (iList K (tVar 8)) [none,some 3,some 5] (gName 0) (tSl (rSlS K) (tVar 0) (tPart (tVar 1)) (tPart (tOp (rI0 λi j=>V.int (i+j)) (tVar 1) (tVar 2)))))))),(pss_cons (ps_set (i:=6) sc_piece.nd rfl (Or.inr rfl) (pe_callTy (call_dictT (P:=P) (w:=w) (K:=K) rfl rfl rfl rfl (by have:=hr.un;show Around.units (A.deeper _)+4<cLine;omega)) (by rfl) B.dict PyProof.Rows.boot_dict (pa_cons (pe_comp rfl (pi_list (pe_cal c_cone (hr.mono (by decide)) (by rfl) (pa_cons (pv 0) (pa_cons (pv 2) (pa_cons (pv 3) (pa_cons (pv 4) (pa_cons (pv 5) pa_nil))))))) (show BlkScope (defScope s_piece) _ from⟨rfl,by decide +kernel,by decide +kernel,by decide +kernel⟩) (N:=["place"]) (ix:=[none]) (show CapOf _ _ _ _ from trivial) (λ_ _ _=>(pg_name (i:=0) (show List.Nodup (["place"]:List Str) by decide +kernel) rfl (Or.inl rfl))) (λ_ _ _=>(pe_tupS (pa_cons (pv 0) (pa_cons pe_bl pa_nil))))) pa_nil)))
   (pss_cons (ps_setComp (i:=7) sc_piece.nd rfl (Or.inl rfl) rfl (pi_zip rfl B.zip (pa_cons (pe_cal c_head_places (hr.mono (by decide)) (by rfl) (pa_cons (pv 0) pa_nil)) (pa_cons (pv 1) pa_nil))) (show BlkScope (defScope s_piece) _ from⟨rfl,by decide +kernel,by decide +kernel,by decide +kernel⟩) (N:=["place","span","inside"]) (ix:=[none,none,some 6]) (show CapOf _ _ _ _ from⟨⟨rfl,rfl,.inl rfl⟩,trivial⟩) (λ_ _ _=>(pg_tup (n:=2) rfl (pgs_cons (pg_name (i:=0) (show List.Nodup (["place","span","inside"]:List Str) by decide +kernel) rfl (Or.inl rfl)) (pgs_cons (pg_name (i:=1) (show List.Nodup (["place","span","inside"]:List Str) by decide +kernel) rfl (Or.inl rfl)) pgs_nil)))) (λ_ _ _=>(pe_ifExp (pt_cmp (pc_dinX (P:=P) (w:=w) (K:=K) (pv 0) (pv 2) (by rfl) (by rfl) (by rfl) (by have:=hr.un;show Around.units (A.deeper _)+1<cLine;omega))) (pv 1) (pe_globT (by rfl) g_LEFT_OUT))))
   (pss_cons (ps_set (i:=8) sc_piece.nd rfl (Or.inl rfl) (pe_slice (sl_listK (K:=K) rfl) (pe_cal c_level (hr.mono (by decide)) (by rfl) (pa_cons (pv 0) (pa_cons (pv 7) (pa_cons pe_int pa_nil)))) (po_some (pv 2)) (po_some (pe_op op_add (pv 2) (pv 4)))))
   (pss_one (ps_ret (pe_comp rfl (pi_list (pv 8)) (show BlkScope (defScope s_piece) _ from⟨rfl,by decide +kernel,by decide +kernel,by decide +kernel⟩) (N:=["row","left","wide"]) (ix:=[none,some 3,some 5]) (show CapOf _ _ _ _ from⟨⟨rfl,rfl,.inl rfl⟩,⟨rfl,rfl,.inl rfl⟩,trivial⟩) (λ_ _ _=>(pg_name (i:=0) (show List.Nodup (["row","left","wide"]:List Str) by decide +kernel) rfl (Or.inl rfl))) (λ_ _ _=>(pe_slice (sl_listK (K:=K) rfl) (pv 0) (po_some (pv 1)) (po_some (pe_op op_add (pv 1) (pv 2))))))))))),?_⟩
 obtain⟨hlen,F,ds,Pr,sm,rp,⟨h,w',L,n,t,l,hh,ww,fs,us,rfl,⟨a1,a2,a3⟩,⟨b1,b2,b3⟩,hL,oks,hf6,hul,kk⟩,q⟩:=h
 obtain⟨v0,_,rfl,r0,v1,_,rfl,r1,_,_,rfl,rfl,_,_,rfl,rfl,_,_,rfl,rfl,_,_,rfl,rfl,rfl⟩:=rp
 have hcl:(coneL h w' L t l hh ww fs).length<=100000:=Nat.le_trans (coneL_len a3 b3 hL) (by decide)
 refine dict_stmt (K:=K) (P:=P) (w:=w) (ps:=coneL h w' L t l hh ww fs) (sP_o (sO_call (sAF_cons sF_var (sAF_cons sF_var (sAF_cons sF_var (sAF_cons sF_var (sAF_cons sF_var sAF_nil))))))) (SR.env (K:=K) (F:=F) (O:=[some v0,some v1,some (.int t),some (.int l),some (.int hh),some (.int ww),none,none,none]) (M:=[vD (hdD h w' L n fs),none,vI t,vI l,vI hh,vI ww,none,none,none]) ⟨r0,rfl,rfl,rfl,rfl,trivial⟩ sm) (by fin2;exact⟨h,w',L,n,t,l,hh,ww,fs,rfl,⟨a1,a2,a3⟩,⟨b1,b2,b3⟩,hL,oks,hf6,rfl⟩) hcl λd F1 H1 ys x1 fd hd hys hat=>?_
 dsimp only
 have hpl:=placesF_len (h:=h) (w:=w') (n:=L)
 have hhw:h*w'<=64*64:=mul_le_mul a3 b3
 refine known_stmt (K:=K) (P:=P) (w:=w) (F:=F1) (O:=[some v0,some v1,some (.int t),some (.int l),some (.int hh),some (.int ww),some (.ref d),none,none]) (M:=[vD (hdD h w' L n fs),vD (.lst (us.map spD)),none,none,none,none,none,none,none]) (ps:=placesF h w' L) (us:=us) (C:=coneL h w' L t l hh ww fs) (sAF_cons (sF_o (sO_call (sAF_cons sF_var sAF_nil))) (sAF_cons sF_var sAF_nil)) (SR.env (K:=K) ⟨Rep.mono x1.ff r0,Rep.mono x1.ff r1,trivial⟩ x1.fh) ?_ (by omega) (by omega) rfl fd hd hys hat λvk F2 H2 x2 rk=>?_
 .fin2
  refine⟨h,w',L,n,fs,rfl,⟨by omega,by omega,by omega⟩,?_⟩
  dsimp only
  rw[show (OV.nl ((placesF h w' L).map λp=>OV.fz (ptD p))).val=ptL (placesF h w' L) from val_ptO]
 have x12:=x1.trans x2
 dsimp only
 generalize hkn:knownL h w' L t l hh ww fs us=kn at kk
 rw[show ((placesF h w' L).zip us).map (λp=>if p.1∈coneL h w' L t l hh ww fs then p.2 else (0,0))=kn from hkn]at rk
 have hkl:kn.length=h*w':=by rw[<- hkn];unfold knownL;rw[length_map,length_zip];omega
 generalize hev:openF (0,0) (λk=>gLower (0,0) sDown fs (2^k:Nat)) h w' L 0 (λi j=>kn.getD (plIx h w' L i j) (0,0))=ev at kk
 refine sim_asg (K:=K) (sF_o (sO_slL (sF_o (sO_call (sAF_cons sF_var (sAF_cons sF_var (sAF_cons sF_int sAF_nil))))) (sP_pt sB_var) (sP_pt (sB_f (sF_op oS_i0 sB_var sB_var))))) (O:=[some v0,some v1,some (.int t),some (.int l),some (.int hh),some (.int ww),some (.ref d),some vk,none]) (M:=[vD (hdD h w' L n fs),none,vI t,none,vI hh,none,none,vD (.lst (kn.map spD)),none]) (P:=λd=>d = .lst (shV spD hh w' λi j=>ev (t+i) j)) ⟨Rep.mono x12.ff r0,rfl,rfl,rk,trivial⟩ x2.fh ?_ λd' vr F3 H3 e x3 r3=>?_
 .fin2
  refine⟨h,w',L,n,0,fs,kn,rfl,oks,⟨by omega,by omega,by omega,hL⟩,zero_le _,hkl,?_⟩
  rw[hev]
  dsimp only
  rw[Nat.pow_zero,rngN_one,rngN_one]
  simp only[Nat.mul_one]
  rw[OV.val,OV.vals_eq,shT_val]
  dsimp only
  unfold shV
  rw[cut_tab a2,map_map,show OV.val∘OV.fz=id from rfl,map_id]
 subst e
 have x13:=x12.trans x3
 refine (sO_comp (ix:=[none,some 3,some 5]) (sI_list (K:=K) (sF_var (i:=8))) sG_name (sO_slL sF_var (sP_pt sB_var) (sP_pt (sB_f (sF_op oS_i0 sB_var sB_var))))) F3 H3 F3 H3 [some v0,some v1,some (.int t),some (.int l),some (.int hh),some (.int ww),some (.ref d),some vk,some vr] [none,none,none,vI l,none,vI ww,none,none,vD (.lst (shV spD hh w' λi j=>ev (t+i) j))] (λo=>o = .nl (shT spD hh ww λi j=>ev (t+i) (l+j))) _ (SR.env (K:=K) ⟨rfl,rfl,r3,trivial⟩ x3.fh) ?_ λr v F4 H4 e x4 n4=>?_
 .fin2
  refine CmpW.map (List.range hh) (λi=>D.lst (tab w' λj=>spD (ev (t+i) j))) (λi=>.nl (tab ww λj=>.fz (spD (ev (t+i) (l+j))))) (by rw[length_range];omega) (λi _ Q q=>?_) rfl
  fin2
  rw[cut_tab b2,tab_map]
  exact q
 subst e
 exact q _ v F4 H4 kk (x13.trans x4) (n4.old x13.hh)
def farS (s:Sp2):Sp2:=(s.2+(10:Int)^(61:Int).toNat,s.2+3*(10:Int)^(61:Int).toNat)
def sSel (iL iP iO iR iS iH:Nat)(Ec:DO)(R:DS):DS:=λDe M=>∃(ps C:List (Int×Int)) (us:List Sp2),(iL<M.length/\iP<M.length/\iO<M.length/\iH<M.length)/\(∀(i:Nat) (sl:Sl),M[i]?=some (some sl)->∃d,sl = .own (.fz d))/\M[iR]?=some (vD (ptL ps))/\M[iS]?=some (vD (.lst (us.map spD)))/\Ec (M.set iL none) (λo=>o=ptO C)/\C.length<=50000/\ps.length=us.length/\us.length<=50000/\
 R De ((((M.set iL none).set iP none).set iH none).set iO (vD (.lst (((ps.zip us).map λp=>if p.1∈C then p.2 else farS p.2).map spD))))
def SRi (K:Frag)(F:Hp)(O:L2.St)(M:Dst):Prop:=O.length=M.length/\∀(i:Nat) (sl:Sl),M[i]?=some (some sl)->∃d v,sl = .own (.fz d)/\O[i]?=some (some v)/\Rep K F d v
theorem SRi.env {K:Frag}{F0 H0 F H:Hp}{O:L2.St}{M:Dst}(h:SRi K F O M)(x:Ext F0 H0 F H):EnvR K F0 H0 F H O M:=by
 refine⟨λ_=>[],h.1,x,λi t e=>?_,λi d e=>?_,λ_=>nodup_nil,λ_ _ _ _ z=>(by cases z),λ_ _ z=>(by cases z)⟩
 .obtain ⟨d,v,e1,e2,e3⟩:=h.2 i _ e
  cases e1
  exact⟨v,e2,rfl,e3⟩
 .obtain ⟨d,v,e1,e2,e3⟩:=h.2 i _ e
  cases e1
theorem SRi.of {K:Frag}{F0 H0 F H:Hp}{O:L2.St}{M:Dst}(e:EnvR K F0 H0 F H O M)(hf:∀(i:Nat) (sl:Sl),M[i]?=some (some sl)->∃d,sl = .own (.fz d)):SRi K F O M:=by
 obtain⟨A,e⟩:=e
 refine⟨e.len,λi sl hi=>?_⟩
 obtain⟨d,rfl⟩:=hf i sl hi
 obtain⟨v,h1,h2⟩:=e.own i _ hi
 exact⟨d,v,rfl,h1,h2.2⟩
theorem SRi.mono {K:Frag}{F F':Hp}{O:L2.St}{M:Dst}(h:SRi K F O M)(s:Same F F'):SRi K F' O M:=⟨h.1,λi sl hi=>let⟨d,v,e1,e2,e3⟩:=h.2 i sl hi;⟨d,v,e1,e2,e3.mono s⟩⟩
theorem SRi.hide {K:Frag}{F:Hp}{O:L2.St}{M:Dst}(h:SRi K F O M)(i:Nat)(x:Option V):SRi K F (O.set i x) (M.set i none):=by
 refine⟨by simp[h.1],λj sl hj=>?_⟩
 by_cases z:i=j
 .subst z
  rw[getElem?_set]at hj
  split at hj
  .split at hj<;>cases hj
  .rename_i z;exact (z rfl).elim
 .rw [getElem?_set_ne z]at hj
  obtain⟨d,v,e1,e2,e3⟩:=h.2 j sl hj
  exact⟨d,v,e1,by rw[getElem?_set_ne z];exact e2,e3⟩
theorem SRi.put {K:Frag}{F:Hp}{O:L2.St}{M:Dst}{d:D}{v:V}(h:SRi K F O M)(i:Nat)(hi:i<M.length)(r:Rep K F d v):SRi K F (O.set i (some v)) (M.set i (vD d)):=by
 refine⟨by simp[h.1],λj sl hj=>?_⟩
 by_cases z:i=j
 .subst z
  rw[getElem?_set_self hi]at hj
  cases hj
  exact⟨d,v,rfl,by rw[getElem?_set_self (by rw[h.1];exact hi)],r⟩
 .rw [getElem?_set_ne z]at hj
  obtain⟨d,v,e1,e2,e3⟩:=h.2 j sl hj
  exact⟨d,v,e1,by rw[getElem?_set_ne z];exact e2,e3⟩
theorem sS_sel {P:Program}{w:World}{K:Frag}{iL iP iO iR iS iH:Nat}{tc:TE}{Ec:DO}{tr:TS}{R:DS}(hne:[iL,iP,iO,iR,iS,iH].Nodup)(hc:SimO K tc Ec)(hR:SimS K tr R):
  SimS K (tSeq (tAsg (tDNewX P w) (gName iL)) (tSeq (tFor (iList K tc) (gName iP) (sDPutX P w K (tVar iL) (tVar iP) (tC (.bl true)))) (tSeq (tAsg (tLstS tNil) (gName iO)) (tSeq (tFor (iZip K (tCons (tVar iR) (tCons (tVar iS) tNil))) (gTup K 2 (gCons (gName iP) (gCons (gName iH) gNil)))
   (tIfS (tB (tDInX P w K (tVar iP) (tVar iL))) (tDrop (tBM K "list" rAppend (tVar iO) (tCons (tVar iH) tNil))) (tDrop (tBM K "list" rAppend (tVar iO) (tCons (tTupS (tCons (tOp (rI0 λi j=>V.int (i+j)) (tOp (rIxT K) (tVar iH) (tC (.int 1))) (tOp (rI CPow λi j=>V.int (i^j.toNat)) (tC (.int 10)) (tC (.int 61)))) (tCons (tOp (rI0 λi j=>V.int (i+j)) (tOp (rIxT K) (tVar iH) (tC (.int 1))) (tOp (rI CMul λi j=>V.int (i*j)) (tC (.int 3)) (tOp (rI CPow λi j=>V.int (i^j.toNat)) (tC (.int 10)) (tC (.int 61))))) tNil))) tNil))))) tr)))) (sSel iL iP iO iR iS iH Ec R):=by
 simp only[nodup_cons,mem_cons,not_mem_nil,or_false,not_or,not_false_eq_true,nodup_nil,and_true]at hne
 obtain⟨⟨n1,n2,n3,n4,n5⟩,⟨n6,n7,n8,n9⟩,⟨n10,n11,n12⟩,⟨n13,n14⟩,n15⟩:=hne
 rintro F0 H0 F H O M De En en lk ⟨ps,C,us,⟨b1,b2,b3,b4⟩,hf,dR,dS,wc,hC,hl,hz,wR⟩
 have sr:=SRi.of en hf
 have x0:=en.ext
 have hsl:=sr.1
 intro p hp
 have xp:Ext F H F (upd H p (.ext (DictS P w p []))):=Ext.grow x0.fh (Same.new hp)
 have fp:F p=none:=x0.fh.free hp
 refine hc F (upd H p (.ext (DictS P w p []))) F (upd H p (.ext (DictS P w p []))) (O.set iL (some (.ref p))) (M.set iL none) _ _ ((sr.hide iL _).env (Ext.refl xp.fh)) wc λo vc F1 H1 e x1 nn1=>?_
 subst e
 obtain⟨F2,x2,_,r2⟩:=nn1.frz x1
 rw[val_ptO]at r2
 obtain⟨a,vs,rfl,sa,ra⟩:=r2
 have hvl:vs.length=C.length:=by have:=ra.length;simpa using this.symm
 have hp1:H1 p=some (.ext (DictS P w p [])):=x2.hh _ _ upd_same
 have f2p:F2 p=none:=x2.no p _ fp upd_same rfl
 have x02:=x0.trans (xp.trans x2)
 refine⟨a,rfl,⟨_,x2.fh.seq sa⟩,λi n O' H'=>n+i=C.length/\SameX p H1 H'/\∃ys o,H' p=some (.ext (DictS P w p ys))/\(∀y∈ys,SqT K F2 y.2.1 (y.1.map kV))/\(∀k,(atKey ys k).isSome=(C.take i).any λq=>decide (k=keyT q.1 q.2))/\ys.length<=i/\O'=(O.set iL (some (.ref p))).set iP o,⟨_,rfl,SameX.of (Same.refl _),[],(O[iP]?).join,hp1,λ_ z=>(by cases z),λk=>rfl,Nat.le_refl _,?_⟩,?_⟩
 .refine ext_getElem? λj=>?_
  by_cases z:iP=j
  .subst z
   rw[getElem?_set_self (by simp;omega),getElem?_set_ne n1,getElem?_eq_getElem (by omega)]
   rfl
  .rw [getElem?_set_ne z]
 rintro i n O' H' ⟨hn,sx,ys,o,hp',hys,hat,hyl,rfl⟩
 have f':=sx.same x2.fh f2p
 rcases lt_or_ge i C.length with hi |hi
 .refine .inr ⟨⟨_,_,f'.seq sa,getElem?_eq_getElem (by omega)⟩,λO' H'=>(n-1)+(i+1)=C.length/\SameX p H1 H'/\∃ys o,H' p=some (.ext (DictS P w p ys))/\(∀y∈ys,SqT K F2 y.2.1 (y.1.map kV))/\(∀k,(atKey ys k).isSome=(C.take (i+1)).any λq=>decide (k=keyT q.1 q.2))/\ys.length<=i+1/\O'=(O.set iL (some (.ref p))).set iP o,λO' H' hN=>⟨n-1,by omega,hN⟩,?_⟩
  rintro x H3 ⟨rfl,hx⟩
  have hx:=hx _ (f'.seq sa)
  obtain⟨v,g1,rv⟩:=ra.get (i:=i) (d:=ptD C[i]) (by rw[getElem?_map,getElem?_eq_getElem hi];rfl)
  rw[hx]at g1
  cases g1
  obtain⟨b,cs,rfl,sb,rb⟩:=rv
  obtain⟨_,_,rfl,rfl,_,_,rfl,rfl,rfl⟩:=rb
  have gL:(((O.set iL (some (.ref p))).set iP o).set iP (some (.ref b)))[iL]?=some (some (.ref p)):=by
   rw[getElem?_set_ne (Ne.symm n1),getElem?_set_ne (Ne.symm n1),getElem?_set_self (by omega)]
  have gP:(((O.set iL (some (.ref p))).set iP o).set iP (some (.ref b)))[iP]?=some (some (.ref b)):=by
   rw[getElem?_set_self (by simp;omega)]
  refine⟨_,gL,_,gP,p,b,ys,keyT C[i].1 C[i].2,rfl,rfl,hp',λy hy=>f'.seqT (hys y hy),f'.seqT sb,by omega,λys' k1 k2 k3=>?_⟩
  refine⟨by omega,λc u hc' e=>by rw[upd_ne hc'];exact sx c u hc' e,ys',some (.ref b),upd_same,λy hy=>?_,λk=>?_,by omega,?_⟩
  .rcases k1 y hy with⟨z1,z2⟩ | ⟨z,z1,z2,z3⟩
   .rw [z1,z2];exact sb
   .rw [z2,z3];exact hys z z1
  .rw [k2,hat,take_succ_eq_append_getElem hi,List.any_append,any_cons,List.any_nil,Bool.or_false,Bool.or_comm]
  .rw [set_set]
 refine .inl ⟨⟨_,f'.seq sa,by omega⟩,?_⟩
 rw[take_of_length_le hi]at hat
 refine⟨sz_le (by decide),λl H3 l0 s3 l3=>?_⟩
 have hpl:l≠p:=λz=>by rw[z,hp']at l0;cases l0
 obtain⟨_,vR,e1,gR,rR⟩:=sr.2 iR _ dR
 cases e1
 obtain⟨_,vS,e1,gS,rS⟩:=sr.2 iS _ dS
 cases e1
 obtain⟨aR,xR,rfl,sR,qR⟩:=rR.mono x2.ff
 obtain⟨aS,xS,rfl,sS,qS⟩:=rS.mono x2.ff
 have lR:xR.length=ps.length:=by have:=qR.length;simpa using this.symm
 have lS:xS.length=us.length:=by have:=qS.length;simpa using this.symm
 have f3:Same F2 H3:=f'.trans s3
 have fl:F2 l=none:=f'.free l0
 have hiL:iL<O.length:=by omega
 have hiP:iP<O.length:=by omega
 have hiO:iO<O.length:=by omega
 have hiH:iH<O.length:=by omega
 have m1:=Ne.symm n1
 have m2:=Ne.symm n2
 have m5:=Ne.symm n5
 have m6:=Ne.symm n6
 have m9:=Ne.symm n9
 have m12:=Ne.symm n12
 have gR4:(((O.set iL (some (.ref p))).set iP o).set iO (some (.ref l)))[iR]?=some (some (.ref aR)):=by
  rw[getElem?_set_ne n10,getElem?_set_ne n7,getElem?_set_ne n3];exact gR
 have gS4:(((O.set iL (some (.ref p))).set iP o).set iO (some (.ref l)))[iS]?=some (some (.ref aS)):=by
  rw[getElem?_set_ne n11,getElem?_set_ne n8,getElem?_set_ne n4];exact gS
 have hp3:H3 p=some (.ext (DictS P w p ys)):=s3 _ _ hp'
 have hC':∀q:Int×Int,(atKey ys (keyT q.1 q.2)).isSome=decide (q∈C):=λq=>by
  rw[hat,Bool.eq_iff_iff,any_eq_true,decide_eq_true_eq]
  constructor
  .rintro ⟨c,hc,e⟩
   obtain⟨z1,z2⟩:=keyT_inj.mp (of_decide_eq_true e)
   rw[show q=c from Prod.ext z1 z2];exact hc
  .exact λz=>⟨_,z,decide_eq_true rfl⟩
 refine⟨_,gR4,_,gS4,aR,aS,xR,xS,rfl,f3.seq sR,f3.seq sS,λi n O' H'=>n+i=us.length/\SameX l H3 H'/\∃F3 zs oP oH,Same F2 F3/\F3 l=none/\Same F3 H'/\(∀a u,F2 a=none->H3 a=some u->imm u=false->F3 a=none)/\H' l=some (.lst zs)/\Reps K F3 ((((ps.zip us).take i).map λp=>if p.1∈C then p.2 else farS p.2).map spD) zs/\O'=((((O.set iL (some (.ref p))).set iP o).set iO (some (.ref l))).set iP oP).set iH oH,⟨us.length,rfl,SameX.of (Same.refl _),F2,[],o,(O[iH]?).join,Same.refl _,fl,f3,λ_ _ z _ _=>z,l3,rfl,?_⟩,?_⟩
 .refine ext_getElem? λj=>?_
  by_cases z:iH=j
  .subst z
   rw[getElem?_set_self (by simp;omega),getElem?_set_ne n12,getElem?_set_ne n9,getElem?_set_ne n5,getElem?_eq_getElem hiH]
   rfl
  .rw [getElem?_set_ne z]
   by_cases z2:iP=j
   .subst z2
    rw[getElem?_set_self (by simp;omega),getElem?_set_ne m6,getElem?_set_self (by simp;omega)]
   .rw [getElem?_set_ne z2]
 clear gR4 gS4
 rintro i n O' Hz ⟨hn,sx',F3,zs,oP,oH,s23,f3l,f3',no3,hl',rz,rfl⟩
 have zl:zs.length<=i:=by
  have:=rz.length
  simp only[length_map,length_take]at this
  lia
 have f2':Same F2 Hz:=s23.trans f3'
 rcases lt_or_ge i us.length with hi' |hi'
 .refine .inr ⟨⟨f2'.seq sR,f2'.seq sS,by omega,by omega⟩,λO' H'=>(n-1)+(i+1)=us.length/\SameX l H3 H'/\∃F3 zs oP oH,Same F2 F3/\F3 l=none/\Same F3 H'/\(∀a u,F2 a=none->H3 a=some u->imm u=false->F3 a=none)/\H' l=some (.lst zs)/\Reps K F3 ((((ps.zip us).take (i+1)).map λp=>if p.1∈C then p.2 else farS p.2).map spD) zs/\O'=((((O.set iL (some (.ref p))).set iP o).set iO (some (.ref l))).set iP oP).set iH oH,λO' H' hN=>⟨n-1,by omega,hN⟩,?_⟩
  rintro x H4 ⟨pr,y1,y2,rfl,hpr,s4,e1,e2,hp4⟩
  obtain⟨v1,g1,rv1⟩:=qR.get (i:=i) (d:=ptD ps[i]) (by rw[getElem?_map,getElem?_eq_getElem (by omega)];rfl)
  obtain⟨v2,g2,rv2⟩:=qS.get (i:=i) (d:=spD us[i]) (by rw[getElem?_map,getElem?_eq_getElem hi'];rfl)
  rw[e1]at g1
  cases g1
  rw[e2]at g2
  cases g2
  have f4:Same F2 H4:=f2'.trans s4
  have hl4:H4 l=some (.lst zs):=s4 _ _ hl'
  refine⟨pr,_,rfl,.inl (.inl hp4),rfl,_,_,rfl,_,_,rfl,rfl,?_⟩
  obtain⟨b,cs,rfl,sb,rb⟩:=rv1
  obtain⟨_,_,rfl,rfl,_,_,rfl,rfl,rfl⟩:=rb
  have hrv2:=rv2
  obtain⟨c,cs,rfl,sc,rc⟩:=rv2
  obtain⟨_,_,rfl,rfl,_,_,rfl,rfl,rfl⟩:=rc
  have hpp:H4 p=some (.ext (DictS P w p ys)):=s4 _ _ (sx' p _ (Ne.symm hpl) hp3)
  have eσ:(((((((O.set iL (some (V.ref p))).set iP o).set iO (some (.ref l))).set iP oP).set iH oH).set iP (some (.ref b))).set iH (some (.ref c)))=((((O.set iL (some (.ref p))).set iP o).set iO (some (.ref l))).set iP (some (.ref b))).set iH (some (.ref c)):=by
   rw[set_comm oH (some (V.ref b)) m9,set_set,set_set]
  rw[eσ]
  have gP:(((((O.set iL (some (.ref p))).set iP o).set iO (some (.ref l))).set iP (some (.ref b))).set iH (some (.ref c)))[iP]?=some (some (.ref b)):=by
   rw[getElem?_set_ne m9,getElem?_set_self (by simp;omega)]
  have gH:(((((O.set iL (some (.ref p))).set iP o).set iO (some (.ref l))).set iP (some (.ref b))).set iH (some (.ref c)))[iH]?=some (some (.ref c)):=by
   rw[getElem?_set_self (by simp;omega)]
  have gL:(((((O.set iL (some (.ref p))).set iP o).set iO (some (.ref l))).set iP (some (.ref b))).set iH (some (.ref c)))[iL]?=some (some (.ref p)):=by
   rw[getElem?_set_ne m5,getElem?_set_ne m1,getElem?_set_ne m2,getElem?_set_ne m1,getElem?_set_self (by omega)]
  have gO:(((((O.set iL (some (.ref p))).set iP o).set iO (some (.ref l))).set iP (some (.ref b))).set iH (some (.ref c)))[iO]?=some (some (.ref l)):=by
   rw[getElem?_set_ne m12,getElem?_set_ne n6,getElem?_set_self (by simp;omega)]
  refine⟨_,gP,_,gL,p,b,ys,keyT ps[i].1 ps[i].2,rfl,rfl,hpp,λy hy=>f4.seqT (hys y hy),f4.seqT sb,_,rfl,?_⟩
  rw[hC']
  dsimp only
  have htk:((ps.zip us).take (i+1))=(ps.zip us).take i++[(ps[i],us[i])]:=by
   rw[take_succ_eq_append_getElem (by rw[length_zip];omega),List.getElem_zip]
  have zz:zs.length<sizeLine:=Nat.lt_of_le_of_lt zl (by rw[sizeLine_eq];omega)
  by_cases hCi:ps[i]∈C
  .rw [if_pos (by simpa using hCi)]
   refine⟨_,gO,.inl ⟨rfl,_,SqL.of hl4⟩,_,gH,l,zs,_,rfl,rfl,hl4,zz,by omega,λb u hb e=>by rw[upd_ne hb];exact s4 _ _ (sx' b u hb e),F3,_,_,_,s23,f3l,λb u e=>?_,no3,upd_same,?_,rfl⟩
   .rw [upd_ne (λz=>by rw[z,f3l]at e;cases e)];exact s4 _ _ (f3' b u e)
   .rw [htk,map_append,map_append]
    refine reps_snoc rz ?_
    dsimp only
    rw[if_pos hCi]
    exact hrv2.mono s23
  .rw [if_neg (by simpa using hCi)]
   refine⟨_,gO,.inl ⟨rfl,_,SqL.of hl4⟩,?_⟩
   refine⟨_,gH,c,_,1,_,rfl,rfl,f4.seqT sc,atI_nat (j:=1) rfl,_,_,rfl,rfl,⟨by decide,by decide,by decide⟩,_,_,rfl,rfl,_,gH,c,_,1,_,rfl,rfl,f4.seqT sc,atI_nat (j:=1) rfl,_,_,rfl,rfl,⟨by decide,by decide,by decide⟩,_,_,rfl,rfl,.inl ⟨by decide,by decide⟩,_,_,rfl,rfl,(show (2:Nat)<=sizeLine by rw[sizeLine_eq];decide),λq H5 q0 s5 q5=>?_⟩
   have hl5:H5 l=some (.lst zs):=s5 _ _ hl4
   have hql:q≠l:=λz=>by rw[z,hl4]at q0;cases q0
   have f3q:F3 q=none:=(f3'.trans s4).free q0
   refine⟨l,zs,_,rfl,rfl,hl5,zz,by omega,λb u hb e=>by rw[upd_ne hb];exact s5 _ _ (s4 _ _ (sx' b u hb e)),upd F3 q (.tup [.int (us[i].2+(10:Int)^(61:Int).toNat),.int (us[i].2+3*(10:Int)^(61:Int).toNat)]),_,_,_,?_,?_,?_,?_,upd_same,?_,rfl⟩
   .intro b u e
    rw[upd_ne (λz=>by have:=s23 b u e;rw[z,f3q]at this;cases this)];exact s23 b u e
   .rw [upd_ne (Ne.symm hql)];exact f3l
   .intro b u e
    by_cases hb:b=q
    .subst hb
     rw[upd_same]at e
     cases e
     rw[upd_ne hql];exact q5
    .rw [upd_ne hb]at e
     rw[upd_ne (λz=>by rw[z,f3l]at e;cases e)]
     exact s5 _ _ (s4 _ _ (f3' b u e))
   .intro b u z1 z2 z3
    rw[upd_ne (λz=>by have:=s4 _ _ (sx' b u (λz'=>hql (z.symm.trans z')) z2);rw[z,q0]at this;cases this)]
    exact no3 b u z1 z2 z3
   .rw [htk,map_append,map_append]
    refine reps_snoc (rz.mono (Same.upd' f3q)) ?_
    dsimp only
    rw[if_neg hCi]
    exact⟨q,_,rfl,.inl (.inl upd_same),_,_,rfl,rfl,_,_,rfl,rfl,rfl⟩
 .refine .inl ⟨⟨f2'.seq sR,f2'.seq sS,by omega⟩,?_⟩
  rw[take_of_length_le (by rw[length_zip];omega)]at rz
  have sF:Same F2 (upd F3 l (.lst zs)):=s23.trans (Same.upd' f3l)
  have h03:∀b u,H0 b=some u->b≠l/\H3 b=some u:=λb u e=>by
   have h1:=x0.hh b u e
   have h2:=sx b u (λz=>by rw[z,hp]at h1;cases h1) (x02.hh b u e)
   refine⟨λz=>?_,s3 _ _ h2⟩
   rw[z,l0]at h2
   cases h2
  have xE:Ext F0 H0 (upd F3 l (.lst zs)) Hz:=by
   refine⟨x02.ff.trans sF,λb u e=>?_,λb u e=>?_,λb u z1 z2 z3=>?_⟩
   .obtain ⟨q1,q2⟩:=h03 b u e
    exact sx' b u q1 q2
   .by_cases hb:b=l
    .subst hb;rw[upd_same]at e;cases e;exact hl'
    .rw [upd_ne hb]at e;exact f3' b u e
   .obtain ⟨q1,q2⟩:=h03 b u z2
    rw[upd_ne q1]
    exact no3 b u (x02.no b u z1 z2 z3) q2 z3
  have srz:=((((sr.mono ((xp.trans x2).ff.trans sF)).hide iL (some (.ref p))).hide iP oP).hide iH oH).put iO (d:=.lst (((ps.zip us).map λp=>if p.1∈C then p.2 else farS p.2).map spD)) (v:=.ref l) (by simp;omega) ⟨l,zs,rfl,.inl (.inl upd_same),rz.mono (Same.upd' f3l)⟩
  have eσ:(((((O.set iL (some (V.ref p))).set iP o).set iO (some (.ref l))).set iP oP).set iH oH)=((((O.set iL (some (.ref p))).set iP oP).set iH oH).set iO (some (.ref l))):=by
   rw[set_comm (some (V.ref l)) oP m6,set_set,set_comm (some (V.ref l)) oH n12]
  rw[eσ]
  exact hR F0 H0 _ _ _ _ De _ (srz.env xE) lk wR
abbrev s_law_rectangle:Stmt:=top 56
theorem sc_law_rectangle:FnScope ["_law_cells","_law_high","_law_wide","_law_top","_law_left"] ["_law_cells","_law_high","_law_wide"] (defScope s_law_rectangle):=by walk_at "S"
def sp_law_rectangle:DSp:=λds P=>∃(ns:List Int) (h w:Nat),ds=[.lst (ns.map .int),.int h,.int w]/\ns.length<=1000/\1<=h/\1<=w/\∀t l a b:Nat,1<=a->t+a<=h->1<=b->l+b<=w->P (.fz (.tup [.int t,.int l,.int a,.int b]))
theorem ok_law_rectangle {f:Addr}{fd:FuncData}(Df:DefAt K mg "_law_rectangle" s_law_rectangle f fd)(B:BltV mg)(KV:KitV K):
  Cal P w K mg base "_law_rectangle" 1 ["_law_cells","_law_high","_law_wide"] (spV K 3 sp_law_rectangle):=by
 refine CalV.of Df sc_law_rectangle (by walk_at "b") rfl (λc A o s H E hr=>⟨_,_,(pss_cons (ps_set (i:=3) sc_law_rectangle.nd rfl (Or.inl rfl) (pe_op op_mod (pe_callB call_sumI (by rfl) B.sum boot_sum (pa_cons (pe_stepA (pv 0) pe_int pe_int) pa_nil)) (pv 1)))
   (pss_cons (ps_set (i:=4) sc_law_rectangle.nd rfl (Or.inl rfl) (pe_op op_mod (pe_callB call_sumI (by rfl) B.sum boot_sum (pa_cons (pe_stepA (pv 0) pe_int pe_int) pa_nil)) (pv 2)))
   (pss_one (ps_ret (pe_tupS (pa_cons (pv 3) (pa_cons (pv 4) (pa_cons (pe_op op_add pe_int (pe_op op_mod (pe_callB call_sumI (by rfl) B.sum boot_sum (pa_cons (pe_stepA (pv 0) pe_int pe_int) pa_nil)) (pe_op op_sub (pv 1) (pv 3)))) (pa_cons (pe_op op_add pe_int (pe_op op_mod (pe_callB call_sumI (by rfl) B.sum boot_sum (pa_cons (pe_stepA (pv 0) pe_int pe_int) pa_nil)) (pe_op op_sub (pv 2) (pv 4)))) pa_nil))))))))),
  (sS_seq (sS_set (sO_f (sF_op oS_i (sB_f (sF_cb cS_sum (sAB_cons (sB_f (sF_o (sO_slSA sF_var (sB_f sF_int) (sB_f sF_int)))) sAB_nil))) sB_var)))
   (sS_seq (sS_set (sO_f (sF_op oS_i (sB_f (sF_cb cS_sum (sAB_cons (sB_f (sF_o (sO_slSA sF_var (sB_f sF_int) (sB_f sF_int)))) sAB_nil))) sB_var)))
   (sS_ret (sO_f (sF_tup (sAF_cons sF_var (sAF_cons sF_var (sAF_cons (sF_op oS_i0 (sB_f sF_int) (sB_f (sF_op oS_i (sB_f (sF_cb cS_sum (sAB_cons (sB_f (sF_o (sO_slSA sF_var (sB_f sF_int) (sB_f sF_int)))) sAB_nil))) (sB_f (sF_op oS_i0 sB_var sB_var))))) (sAF_cons (sF_op oS_i0 (sB_f sF_int) (sB_f (sF_op oS_i (sB_f (sF_cb cS_sum (sAB_cons (sB_f (sF_o (sO_slSA sF_var (sB_f sF_int) (sB_f sF_int)))) sAB_nil))) (sB_f (sF_op oS_i0 sB_var sB_var))))) sAF_nil))))))))),?_⟩)
 rintro ds Pr ⟨ns,h,w',rfl,hl,h1,w1,k⟩
 have ev:∀a:Int,List.map OV.val (List.map OV.fz (stepA (List.map D.int ns) a 4))=List.map D.int (stepA ns a 4):=λa=>by
  rw[stepA_map,map_map,map_map];rfl
 gn_on
 refine⟨_,ev 0,by lia,?_⟩
 gp_on
 gn_on
 refine⟨_,ev 1,by lia,?_⟩
 gp_on
 have q1:=emod_nonneg (stepA ns 0 4).sum (show (h:Int)≠0 by lia)
 have q2:=emod_lt_of_pos (stepA ns 0 4).sum (show (0:Int)<h by lia)
 have q3:=emod_nonneg (stepA ns 1 4).sum (show (w':Int)≠0 by lia)
 have q4:=emod_lt_of_pos (stepA ns 1 4).sum (show (0:Int)<w' by lia)
 generalize (stepA ns 0 4).sum%(h:Int)=t at q1 q2
 generalize (stepA ns 1 4).sum%(w':Int)=l at q3 q4
 fin2
 refine⟨_,ev 2,by lia,_,ev 3,by lia,?_⟩
 have q5:=emod_nonneg (stepA ns 2 4).sum (show (h:Int)-t≠0 by lia)
 have q6:=emod_lt_of_pos (stepA ns 2 4).sum (show (0:Int)<h-t by lia)
 have q7:=emod_nonneg (stepA ns 3 4).sum (show (w':Int)-l≠0 by lia)
 have q8:=emod_lt_of_pos (stepA ns 3 4).sum (show (0:Int)<w'-l by lia)
 generalize (stepA ns 2 4).sum%((h:Int)-t)=a at q5 q6
 generalize (stepA ns 3 4).sum%((w':Int)-l)=b at q7 q8
 have:=k t.toNat l.toNat (1+a).toNat (1+b).toNat (by lia) (by lia) (by lia) (by lia)
 rw[toNat_of_nonneg q1,toNat_of_nonneg q3,toNat_of_nonneg (by lia),toNat_of_nonneg (by lia)]at this
 exact this
theorem mod_step {x:Int}(hx:0<=x)(L:Nat):x%(2*2^L)=0↔x%2^L=0/\x / 2^L%2=0:=by
 obtain⟨a,rfl⟩:=Int.eq_ofNat_of_zero_le hx
 have e1:(a:Int)%(2*2^L)=((a%(2^L*2):Nat):Int):=by
  rw[Int.mul_comm];simp
 have e2:(a:Int)%2^L=((a%2^L:Nat):Int):=by simp
 have e3:(a:Int) / 2^L%2=((a / 2^L%2:Nat):Int):=by simp
 rw[e1,e2,e3,Nat.mod_mul]
 have hp:0<2^L:=pow_pos (by decide)
 constructor
 .intro h
  have h1:a%2^L+2^L*(a / 2^L%2)=0:=by lia
  have h2:2^L*(a / 2^L%2)=0:=by lia
  rcases Nat.mul_eq_zero.mp h2 with z |z<;>lia
 .rintro ⟨h1,h2⟩
  have h3:a / 2^L%2=0:=by lia
  rw[h3]
  lia
theorem or_bit {i j:Int}(hi:0<=i)(hj:0<=j)(L:Nat):Builtin.bitOr i j / 2^L%2=0↔i / 2^L%2=0/\j / 2^L%2=0:=by
 rw[<- bit_zero hi hj L]
 have h0:0<=Builtin.bitOr i j:=by rw[or_nn hi hj];lia
 obtain⟨a,ha⟩:=Int.eq_ofNat_of_zero_le h0
 rw[ha]
 have e:(a:Int) / 2^L=((a / 2^L:Nat):Int):=by simp
 rw[e,and1_nn]
 lia
theorem rev_tab {α:Type}(n:Nat)(g:Nat->α):(List.range (n+1)).map (λr=>g (n-r))=((List.range (n+1)).map g).reverse:=by
 refine ext_getElem (by simp) λi h1 h2=>?_
 simp[List.getElem_reverse]
def grpR (n:Nat)(ps:List (Int×Int)):List OV:=(List.range (n+1)).map λr=>.nl ((grp n ps (n-r)).map λp=>.fz (ptD p))
theorem grpR_nil (n:Nat):grpR n []=(List.range (n+1)).map λ_=>OV.nl []:=rfl
theorem grpR_get {n r:Nat}{ps:List (Int×Int)}(h:r<=n):(grpR n ps)[r]?=some (.nl ((grp n ps (n-r)).map λp=>.fz (ptD p))):=by
 unfold grpR
 rw[getElem?_map,getElem?_range (by lia)]
 rfl
theorem grpR_snoc {n:Nat}{ps:List (Int×Int)}{p:Int×Int}:(grpR n ps).set (n-lvF n p) (.nl (((grp n ps (lvF n p)).map λp=>OV.fz (ptD p))++[.fz (ptD p)]))=grpR n (ps++[p]):=by
 have hle:lvF n p<=n:=lvl_le _ _ _
 refine ext_getElem? λl=>?_
 rw[getElem?_set]
 by_cases hl:l<=n
 .rw [grpR_get hl,grpR_get hl]
  have eg:grp n (ps++[p]) (n-l)=grp n ps (n-l)++(if lvF n p=n-l then [p] else []):=by
   unfold grp
   rw[List.filter_append]
   congr 1
   by_cases z:lvF n p=n-l<;>simp[z]
  rw[eg]
  by_cases z:lvF n p=n-l
  .rw [if_pos z,if_pos (by lia),if_pos (by simp[grpR];lia),map_append,z]
   rfl
  .rw [if_neg z,if_neg (by lia),append_nil]
 .have e1:(grpR n ps)[l]?=none:=getElem?_eq_none (by simp[grpR];lia)
  have e2:(grpR n (ps++[p]))[l]?=none:=getElem?_eq_none (by simp[grpR];lia)
  rw[if_neg (by omega),e1,e2]
theorem grpR_vals {n:Nat}{ps:List (Int×Int)}:(grpR n ps).map OV.val=(List.range (n+1)).map λr=>D.lst ((grp n ps (n-r)).map ptD):=by
 unfold grpR
 rw[map_map]
 refine map_congr_left λl _=>?_
 show OV.val (.nl _)=_
 rw[OV.val,OV.vals_eq,map_map]
 rfl
def sp_law_order:DSp:=λds P=>∃h w n:Nat,ds=[.int h,.int w,.int n]/\h<=100/\w<=100/\n<=6/\P (.fz (.lst ((placesF h w n).map ptD)))
abbrev s_law_order:Stmt:=top 54
theorem sc_law_order:FnScope ["_law_high","_law_wide","_law_levels","_law_rows","_law_i","_law_j","_law_k","_law_found","_law_row"] ["_law_high","_law_wide","_law_levels"] (defScope s_law_order):=by walk_at "S"
theorem ok_law_order {f:Addr}{fd:FuncData}(Df:DefAt K mg "_law_order" s_law_order f fd)(B:BltV mg)(KV:KitV K):
  Cal P w K mg base "_law_order" 1 ["_law_high","_law_wide","_law_levels"] (spV K 3 sp_law_order):=by
 refine CalV.of Df sc_law_order (by walk_at "b") rfl (λc A o s H E hr=>⟨_,_,(pss_cons (ps_setComp (i:=3) sc_law_order.nd rfl (Or.inl rfl) rfl (pi_range1 (by rfl) (by exact B.range) (pa_cons (pe_op op_add (pv 2) pe_int) pa_nil)) (show BlkScope (defScope s_law_order) _ from⟨rfl,by decide +kernel,by decide +kernel,by decide +kernel⟩) (N:=["_law_k"]) (ix:=[none]) (show CapOf _ _ _ _ from trivial) (λ_ _ _=>(pg_name (i:=0) (show List.Nodup (["_law_k"]:List Str) by decide +kernel) rfl (Or.inl rfl))) (λ_ _ _=>(pe_lstS pa_nil)))
   (pss_cons (ps_for PassesOwn.never rfl (pi_range1 (by rfl) (by exact B.range) (pa_cons (pv 0) pa_nil)) (pg_name (i:=4) sc_law_order.nd rfl (Or.inl rfl)) (pss_one (ps_for PassesOwn.never rfl (pi_range1 (by rfl) (by exact B.range) (pa_cons (pv 1) pa_nil)) (pg_name (i:=5) sc_law_order.nd rfl (Or.inl rfl)) (pss_cons (ps_set (i:=6) sc_law_order.nd rfl (Or.inl rfl) pe_int)
   (pss_cons (ps_while PassesOwn.never (pw_and (pt_cmpR op_lt (pv 6) (pv 2) (nomark _)) (pw_and1 (pt_cmpR op_eq (pe_op op_mod (pe_op op_or (pv 4) (pv 5)) (pe_op op_shl pe_int (pv 6))) pe_int (nomark _)))).pt (pss_one (ps_set (i:=6) sc_law_order.nd rfl (Or.inl rfl) (pe_op op_add (pv 6) pe_int))))
   (pss_one (ps_expr (pe_bm plainAttrs_list PySem.F.slot_list_append PySem.F.type_list_append mt_append (pe_ix ix_list (pv 3) (pe_op op_sub (pv 2) (pv 6)) (λ_ _=>rfl)) (pa_cons (pe_tupS (pa_cons (pv 4) (pa_cons (pv 5) pa_nil))) pa_nil)))))))))
   (pss_cons (ps_set (i:=7) sc_law_order.nd rfl (Or.inl rfl) (pe_lstS pa_nil))
   (pss_cons (ps_for PassesOwn.never rfl (pi_list (pv 3)) (pg_name (i:=8) sc_law_order.nd rfl (Or.inl rfl)) (pss_one (ps_set (i:=7) sc_law_order.nd rfl (Or.inl rfl) (pe_op op_catS (pv 7) (pv 8)))))
   (pss_one (ps_ret (pv 7))))))),
  (sS_seq (sS_set (sO_comp (sI_rng1 (sAB_cons (sB_f (sF_op oS_i0 sB_var (sB_f sF_int))) sAB_nil)) sG_name (sO_lst sAO_nil)))
   (sS_seq (sS_for (sI_rng1 (sAB_cons sB_var sAB_nil)) sG_name (sS_for (sI_rng1 (sAB_cons sB_var sAB_nil)) sG_name (sS_seq (sS_set (sO_f sF_int))
   (sS_seq (sS_while (sT_and (sT_test (sF_op oS_b0 sB_var sB_var)) (sT_test (sF_op oS_eq (sB_f (sF_op oS_i (sB_f (sF_op oS_i0 sB_var sB_var)) (sB_f (sF_op oS_i (sB_f sF_int) sB_var)))) (sB_f sF_int)))) (sS_set (sO_f (sF_op oS_i0 sB_var (sB_f sF_int)))))
   (sS_app2 (sB_f (sF_op oS_i0 sB_var sB_var)) (sO_f (sF_tup (sAF_cons sF_var (sAF_cons sF_var sAF_nil)))))))))
   (sS_seq (sS_set (sO_f (sF_o (sO_lst sAO_nil))))
   (sS_seq (sS_frz 3 (sS_for (sI_list sF_var) sG_name (sS_set (sO_f (sF_o (sO_catL sF_var sF_var))))))
   (sS_ret (sO_f sF_var)))))),?_⟩)
 rintro ds Pr ⟨h,w',n,rfl,hh,hw,hn,k⟩
 refine sSeq_k λN hN=>?_
 fin2
 refine⟨⟨by lia,by lia⟩,CmpW.rng (λ_=>.nl []) (by lia) (λi hi Q q=>by fin2;exact q) ?_⟩
 rw[show ((n:Int)+1).toNat=n+1 by lia,<- grpR_nil]
 gp_on
 gn_on
 refine⟨⟨by lia,by lia⟩,λi M=>i<=h/\∃o4 o5 o6 o7 o8,M=[vI h,vI w',vI n,vL (grpR n (allF i w')),o4,o5,o6,o7,o8],⟨zero_le _,_,_,_,_,_,rfl⟩,?_,?_⟩
 .rintro i d M hd ⟨hi',o4,o5,o6,o7,o8,rfl⟩
  obtain⟨hi,rfl⟩:=rng_inv hd
  rw[toNat_natCast]at hi
  fin2
  refine⟨⟨by lia,by lia⟩,λj M=>∃o5 o6,M=[vI h,vI w',vI n,vL (grpR n (allF i w'++plRow i j)),vI (0+(i:Int)*1),o5,o6,o7,o8],⟨o5,o6,by simp[plRow]⟩,?_,?_⟩
  .rintro j e M he ⟨o5,o6,rfl⟩
   obtain⟨hj,rfl⟩:=rng_inv he
   rw[toNat_natCast]at hj
   rw[show 0+(i:Int)*1=i by lia,show 0+(j:Int)*1=j by lia]
   have hb0:0<=Builtin.bitOr (i:Int) j:=by rw[or_nn (by lia) (by lia)];lia
   gn_on
   gp_on
   gn_on
   refine⟨λm M=>∃L:Nat,M=[vI h,vI w',vI n,vL (grpR n (allF i w'++plRow i j)),vI (i:Int),vI (j:Int),vI (L:Int),o7,o8]/\L<=n/\m=n-L/\Builtin.bitOr (i:Int) j%2^L=0/\lvl n i j=L+lvl (n-L) ((i:Int) / 2^L) ((j:Int) / 2^L),⟨_,0,rfl,by lia,rfl,by simp,by simp⟩,?_⟩
   rintro m M ⟨L,rfl,h1,rfl,h3,h2⟩
   fin2
   rw[toNat_natCast]
   have fin:lvl n i j=L->N [vI h,vI w',vI n,vL (grpR n (allF i w'++plRow i j)),vI (i:Int),vI (j:Int),vI (L:Int),o7,o8]:=by
    intro eL
    gp_on
    fin2
    have hle:lvl n i j<=n:=lvl_le _ _ _
    rw[show ((n:Int)-(L:Int)).toNat=n-L by lia]
    refine⟨by lia,_,grpR_get (r:=n-L) (by lia),?_,?_⟩
    .have h1:=grp_len_le (n:=n) (l:=n-(n-L)) (ps:=allF i w'++plRow i j)
     rw[length_append,allF_len,plRow_len]at h1
     have h2:i*w'<=100*100:=mul_le_mul (by lia) hw
     rw[length_map]
     lia
    .have e:=grpR_snoc (n:=n) (ps:=allF i w'++plRow i j) (p:=((i:Int),(j:Int)))
     rw[append_assoc,<- plRow_take,show lvF n ((i:Int),(j:Int))=L from eL]at e
     rw[show n-(n-L)=L by lia,<- e]
     exact⟨_,_,rfl⟩
   by_cases hL:(L:Int)<n
   .rw [if_pos hL]
    have hp:=pow_pos' L
    refine⟨⟨by lia,by lia⟩,by lia,?_⟩
    obtain⟨q,hq⟩:∃q,n-L=q+1:=⟨n-L-1,by lia⟩
    rw[hq,lvl]at h2
    have hb:=or_bit (i:=(i:Int)) (j:=(j:Int)) (by lia) (by lia) L
    have hm:=mod_step hb0 L
    by_cases hz:Builtin.bitOr (i:Int) j%(2*2^L)=0
    .rw [if_pos hz]
     rw[if_pos (hb.mp (hm.mp hz).2),div_two,div_two]at h2
     refine⟨n-(L+1),by lia,L+1,rfl,by lia,rfl,?_,?_⟩
     .rw [pow_succ,Int.mul_comm];exact hz
     rw[show n-(L+1)=q by lia]
     lia
    .rw [if_neg hz]
     rw[if_neg λz=>hz (hm.mpr ⟨h3,hb.mpr z⟩)]at h2
     exact fin h2
   .rw [if_neg hL]
    have e:n-L=0:=by lia
    rw[e,lvl]at h2
    exact fin h2
  .rintro M ⟨o5,o6,rfl⟩
   rw[rng_len,toNat_natCast,<- allF_succ]
   exact⟨hi,_,_,_,_,_,rfl⟩
 rintro M ⟨hi,o4,o5,o6,o7,o8,rfl⟩
 rw[rng_len,toNat_natCast]
 gp_on
 gn_on
 gp_on
 gn_on
 rw[grpR_vals,rev_tab n λl=>D.lst ((grp n (allF h w') l).map ptD)]
 generalize hg3:some (Sl.own (OV.fz (D.lst ((List.range (n+1)).map λl=>D.lst ((grp n (allF h w') l).map ptD)).reverse)))=o3
 rw[<- map_reverse]
 refine⟨λi M=>∃o8,M=[vI h,vI w',vI n,o3,o4,o5,o6,some (Sl.own (OV.fz (D.lst ((((((List.range (n+1)).map (grp n (allF h w'))).reverse).take i).flatten).map ptD)))),o8],?_,?_,?_⟩
 .exact ⟨_,rfl⟩
 .rintro i d M hd ⟨o8,rfl⟩
  obtain⟨l,hl,rfl⟩:=mget hd
  have hx:(((List.range (n+1)).map (grp n (allF h w'))).reverse)[i]?=some (grp n (allF h w') l):=by
   rw[<- map_reverse,getElem?_map,hl]
   rfl
  dsimp only
  rw[take_rev_succ hx]
  have hlen:((((List.range (n+1)).map (grp n (allF h w'))).reverse.take i).flatten).length+(grp n (allF h w') l).length<=10000:=by
   rw[<- length_append,<- take_rev_succ hx]
   have h1:((((List.range (n+1)).map (grp n (allF h w'))).reverse.take (i+1)).flatten).length<=(placesF h w' n).length:=by
    unfold placesF
    conv=>rhs;rw[<- take_append_drop (i+1) ((List.range (n+1)).map (grp n (allF h w'))).reverse,List.flatten_append,length_append]
    lia
   rw[placesF_len]at h1
   have h2:h*w'<=100*100:=mul_le_mul hh hw
   lia
  fin2
  refine⟨by lia,?_⟩
  have ev:∀ds:List D,(ds.map OV.fz).map OV.val=ds:=λds=>by rw[map_map];exact List.map_id'' (λ_=>rfl) ds
  rw[ev,<- map_append]
  exact⟨_,rfl⟩
 .rintro M ⟨o8,rfl⟩
  rw[length_map,length_reverse,length_range,take_of_length_le (by simp)]
  gp_on
  fin2
  exact k
def sp_law_span:DSp:=λds P=>∃s:Sp2,ds=[spD s]/\P (.fz (.bl true))
def sp_law_spans:DSp:=λds P=>∃(w:Nat) (e:Nat->Sp2),ds=[.lst (tab w λj=>spD (e j)),.int w]/\w<=1000/\P (.fz (.bl true))
def sp_law_is_sheet:DSp:=λds P=>∃(h w:Nat) (e:Nat->Nat->Sp2),ds=[.lst (shV spD h w e),.int h,.int w]/\h<=1000/\w<=1000/\P (.fz (.bl true))
def sp_law_sheet:DSp:=λds P=>∃(h w L n:Nat) (fs:List Lf) (vs:List Sp2),ds=[hdD h w L n fs,.lst (vs.map spD)]/\(h<=100/\w<=100/\L<=6)/\vs.length=h*w/\P (.nl (shT spD h w λi j=>vs.getD (plIx h w L i j) (0,0)))
theorem fit_shS {h w:Nat}{f:Nat->Nat->Sp2}:(D.lst (shV spD h w f)).fit 4=true:=by
 simp[D.fit,shV,tab,spD]
theorem copy_rows {α:Type}{g:α->D}{h w:Nat}{f:Nat->Nat->α}{P:OV->Prop}(hh:h<=1000)(k:P (.nl (shT g h w f))):CmpW (gN 0) (dCBo listD (dCons (dV 0) dNil)) (shV g h w f) [none] P:=by
 refine CmpW.map (List.range h) (λi=>D.lst (tab w λj=>g (f i j))) (λi=>.nl (tab w λj=>.fz (g (f i j)))) (by rw[length_range];lia) (λi _ Q q=>?_) k
 fin2
 rw[tab_map]
 exact q
abbrev s_law_span:Stmt:=top 57
theorem sc_law_span:FnScope ["_law_found"] ["_law_found"] (defScope s_law_span):=by walk_at "S"
abbrev s_law_spans:Stmt:=top 58
theorem sc_law_spans:FnScope ["_law_found","_law_many"] ["_law_found","_law_many"] (defScope s_law_spans):=by walk_at "S"
abbrev s_law_is_sheet:Stmt:=top 59
theorem sc_law_is_sheet:FnScope ["_law_found","_law_high","_law_wide"] ["_law_found","_law_high","_law_wide"] (defScope s_law_is_sheet):=by walk_at "S"
abbrev s_law_sheet:Stmt:=top 55
theorem sc_law_sheet:FnScope ["_law_head","_law_things","_law_rows","_law_place","_law_thing"] ["_law_head","_law_things"] (defScope s_law_sheet):=by walk_at "S"
theorem ok_law_span {f:Addr}{fd:FuncData}(Df:DefAt K mg "_law_span" s_law_span f fd)(B:BltV mg)(KV:KitV K)(c_law_whole:Cal P w K mg base "_law_whole" 1 ["_law_found"] (spV K 1 sp_law_whole)):
  Cal P w K mg base "_law_span" 2 ["_law_found"] (spV K 1 sp_law_span):=by
 refine CalV.of Df sc_law_span (by walk_at "b") rfl (λc A o s H E hr=>⟨_,_,(pss_cons (ps_if (pw_or (pt_not (pt_val (pe_callB call_isiD (by rfl) B.isinstance boot_isinstance (pa_cons (pv 0) (pa_cons (pe_bltn (v:=.ty "tuple") (by rfl) B.tuple PyProof.Rows.boot_tuple (by rfl)) pa_nil))))) (pw_or1 (pt_cmpR op_ne (pe_callB call_len_seq (by rfl) B.len boot_len (pa_cons (pv 0) pa_nil)) pe_int (nomark _)))).pt (pss_one (ps_ret pe_bl)) pss_nil)
   (pss_one (ps_ret (pe_and (pe_cal c_law_whole (hr.mono (by decide)) (by rfl) (pa_cons (pe_ix ix_tup (pv 0) pe_int (λ_ _=>rfl)) pa_nil)) (pe_one (pe_cal c_law_whole (hr.mono (by decide)) (by rfl) (pa_cons (pe_ix ix_tup (pv 0) pe_int (λ_ _=>rfl)) pa_nil))))))),
  (sS_seq (sS_if (sT_or (sT_not (sT_b (sF_cb (cS_isi KV) (sAB_cons sB_var (sAB_cons (sB_f sF_ty) sAB_nil))))) (sT_test (sF_op oS_ne (sB_f (sF_cb cS_len (sAB_cons sB_var sAB_nil))) (sB_f sF_int)))) (sS_ret (sO_f sF_bl)) sS_next)
   (sS_ret (sO_f (sF_andV (sF_o (sO_call (sAF_cons (sF_opF oF_ixT sF_var sF_int) sAF_nil))) (sF_o (sO_call (sAF_cons (sF_opF oF_ixT sF_var sF_int) sAF_nil))))))),?_⟩)
 rintro ds Pr ⟨s,rfl,k⟩
 unfold spD
 fin2
 rw[if_neg (show ¬ (!decide (((2:Nat):Int)=2))=true by decide)]
 simp only[sp_law_whole]
 show if true=true then _ else _
 rw[if_pos rfl]
 exact k
theorem all_t (n:Nat):((List.range n).map λ_=>true).all id=true:=by simp
theorem ok_law_spans {f:Addr}{fd:FuncData}(Df:DefAt K mg "_law_spans" s_law_spans f fd)(B:BltV mg)(KV:KitV K)(c_law_span:Cal P w K mg base "_law_span" 2 ["_law_found"] (spV K 1 sp_law_span)):
  Cal P w K mg base "_law_spans" 3 ["_law_found","_law_many"] (spV K 2 sp_law_spans):=by
 refine CalV.of Df sc_law_spans (by walk_at "b") rfl (λc A o s H E hr=>⟨_,_,(pss_cons (ps_if (pw_or (pt_not (pt_val (pe_callB call_isiD (by rfl) B.isinstance boot_isinstance (pa_cons (pv 0) (pa_cons (pe_bltn (v:=.ty "list") (by rfl) B.list PyProof.Rows.boot_list (by rfl)) pa_nil))))) (pw_or1 (pt_cmpR op_ne (pe_callB call_len_seq (by rfl) B.len boot_len (pa_cons (pv 0) pa_nil)) (pv 1) (nomark _)))).pt (pss_one (ps_ret pe_bl)) pss_nil)
   (pss_one (ps_ret (pe_callB (call_allB rfl) (by rfl) B.all boot_all (pa_cons (pe_comp rfl (pi_list (pv 0)) (show BlkScope (defScope s_law_spans) _ from⟨rfl,by decide +kernel,by decide +kernel,by decide +kernel⟩) (N:=["_law_span_here"]) (ix:=[none]) (show CapOf _ _ _ _ from trivial) (λ_ _ _=>(pg_name (i:=0) (show List.Nodup (["_law_span_here"]:List Str) by decide +kernel) rfl (Or.inl rfl))) (λ_ _ _=>(pe_cal c_law_span (hr.mono (by decide)) (by rfl) (pa_cons (pv 0) pa_nil)))) pa_nil))))),
  (sS_seq (sS_if (sT_or (sT_not (sT_b (sF_cb (cS_isi KV) (sAB_cons sB_var (sAB_cons (sB_f sF_ty) sAB_nil))))) (sT_test (sF_op oS_ne (sB_f (sF_cb cS_len (sAB_cons sB_var sAB_nil))) sB_var))) (sS_ret (sO_f sF_bl)) sS_next)
   (sS_ret (sO_f (sF_cb cS_all (sAB_cons (sB_f (sF_o (sO_comp (sI_list sF_var) sG_name (sO_call (sAF_cons sF_var sAF_nil))))) sAB_nil))))),?_⟩)
 rintro ds Pr ⟨w,e,rfl,hw,k⟩
 fin2
 rw[tab_len,if_neg (by simp)]
 refine CmpW.map (List.range w) (λj=>spD (e j)) (λ_=>.fz (.bl true)) (by rw[length_range];lia) (λj _ Q q=>?_) ?_
 .fin2
  exact⟨e j,rfl,q⟩
 fin2
 refine⟨(List.range w).map λ_=>true,by rw[map_map,map_map];rfl,?_⟩
 rw[all_t]
 exact k
theorem ok_law_is_sheet {f:Addr}{fd:FuncData}(Df:DefAt K mg "_law_is_sheet" s_law_is_sheet f fd)(B:BltV mg)(KV:KitV K)(c_law_spans:Cal P w K mg base "_law_spans" 3 ["_law_found","_law_many"] (spV K 2 sp_law_spans)):
  Cal P w K mg base "_law_is_sheet" 4 ["_law_found","_law_high","_law_wide"] (spV K 3 sp_law_is_sheet):=by
 refine CalV.of Df sc_law_is_sheet (by walk_at "b") rfl (λc A o s H E hr=>⟨_,_,(pss_cons (ps_if (pw_or (pt_not (pt_val (pe_callB call_isiD (by rfl) B.isinstance boot_isinstance (pa_cons (pv 0) (pa_cons (pe_bltn (v:=.ty "list") (by rfl) B.list PyProof.Rows.boot_list (by rfl)) pa_nil))))) (pw_or1 (pt_cmpR op_ne (pe_callB call_len_seq (by rfl) B.len boot_len (pa_cons (pv 0) pa_nil)) (pv 1) (nomark _)))).pt (pss_one (ps_ret pe_bl)) pss_nil)
   (pss_one (ps_ret (pe_callB (call_allB rfl) (by rfl) B.all boot_all (pa_cons (pe_comp rfl (pi_list (pv 0)) (show BlkScope (defScope s_law_is_sheet) _ from⟨rfl,by decide +kernel,by decide +kernel,by decide +kernel⟩) (N:=["_law_row","_law_wide"]) (ix:=[none,some 2]) (show CapOf _ _ _ _ from⟨⟨rfl,rfl,.inl rfl⟩,trivial⟩) (λ_ _ _=>(pg_name (i:=0) (show List.Nodup (["_law_row","_law_wide"]:List Str) by decide +kernel) rfl (Or.inl rfl))) (λ_ _ _=>(pe_cal c_law_spans (hr.mono (by decide)) (by rfl) (pa_cons (pv 0) (pa_cons (pv 1) pa_nil))))) pa_nil))))),
  (sS_seq (sS_if (sT_or (sT_not (sT_b (sF_cb (cS_isi KV) (sAB_cons sB_var (sAB_cons (sB_f sF_ty) sAB_nil))))) (sT_test (sF_op oS_ne (sB_f (sF_cb cS_len (sAB_cons sB_var sAB_nil))) sB_var))) (sS_ret (sO_f sF_bl)) sS_next)
   (sS_ret (sO_f (sF_cb cS_all (sAB_cons (sB_f (sF_o (sO_comp (sI_list sF_var) sG_name (sO_call (sAF_cons sF_var (sAF_cons sF_var sAF_nil)))))) sAB_nil))))),?_⟩)
 rintro ds Pr ⟨h,w,e,rfl,hh,hw,k⟩
 fin2
 rw[show (shV spD h w e).length=h from tab_len,if_neg (by simp)]
 refine CmpW.map (List.range h) (λi=>D.lst (tab w λj=>spD (e i j))) (λ_=>.fz (.bl true)) (by rw[length_range];lia) (λi _ Q q=>?_) ?_
 .fin2
  exact⟨w,λj=>e i j,rfl,hw,q⟩
 fin2
 refine⟨(List.range h).map λ_=>true,by rw[map_map,map_map];rfl,?_⟩
 rw[all_t]
 exact k
theorem ok_law_sheet {f:Addr}{fd:FuncData}(Df:DefAt K mg "_law_sheet" s_law_sheet f fd)(B:BltV mg)(KV:KitV K)(c_law_order:Cal P w K mg base "_law_order" 1 ["_law_high","_law_wide","_law_levels"] (spV K 3 sp_law_order)):
  Cal P w K mg base "_law_sheet" 2 ["_law_head","_law_things"] (spV K 2 sp_law_sheet):=by
 refine CalV.of Df sc_law_sheet (by walk_at "b") rfl (λc A o s H E hr=>⟨_,_,(pss_cons (ps_setComp (i:=2) sc_law_sheet.nd rfl (Or.inl rfl) rfl (pi_range1 (by rfl) (by exact B.range) (pa_cons (pe_ix ix_tup (pv 0) pe_int (λ_ _=>rfl)) pa_nil)) (show BlkScope (defScope s_law_sheet) _ from⟨rfl,by decide +kernel,by decide +kernel,by decide +kernel⟩) (N:=["_law_i","_law_head"]) (ix:=[none,some 0]) (show CapOf _ _ _ _ from⟨⟨rfl,rfl,.inl rfl⟩,trivial⟩) (λ_ _ _=>(pg_name (i:=0) (show List.Nodup (["_law_i","_law_head"]:List Str) by decide +kernel) rfl (Or.inl rfl))) (λ_ _ _=>(pe_op op_rep (pe_lstS (pa_cons pe_non pa_nil)) (pe_ix ix_tup (pv 1) pe_int (λ_ _=>rfl)))))
   (pss_cons (ps_for PassesOwn.never rfl (pi_zip rfl B.zip (pa_cons (pe_cal c_law_order (hr.mono (by decide)) (by rfl) (pa_cons (pe_ix ix_tup (pv 0) pe_int (λ_ _=>rfl)) (pa_cons (pe_ix ix_tup (pv 0) pe_int (λ_ _=>rfl)) (pa_cons (pe_ix ix_tup (pv 0) pe_int (λ_ _=>rfl)) pa_nil)))) (pa_cons (pv 1) pa_nil))) (pg_tup (n:=2) rfl (pgs_cons (pg_name (i:=3) sc_law_sheet.nd rfl (Or.inl rfl)) (pgs_cons (pg_name (i:=4) sc_law_sheet.nd rfl (Or.inl rfl)) pgs_nil))) (pss_one (ps_asg (pv 4) (pg_sub (pe_ix ix_list (pv 2) (pe_ix ix_tup (pv 3) pe_int (λ_ _=>rfl)) (λ_ _=>rfl)) (pe_ix ix_tup (pv 3) pe_int (λ_ _=>rfl)) set_list))))
   (pss_one (ps_ret (pv 2))))),
  (sS_seq (sS_set (sO_comp (sI_rng1 (sAB_cons (sB_op (OpF.b oF_ixT) sB_var (sB_f sF_int)) sAB_nil)) sG_name (sO_rep1 (sO_lst (sAO_cons (sO_f sF_non) sAO_nil)) (sB_op (OpF.b oF_ixT) sB_var (sB_f sF_int)))))
   (sS_seq (sS_for (sI_zip (sAF_cons (sF_o (sO_call (sAF_cons (sF_opF oF_ixT sF_var sF_int) (sAF_cons (sF_opF oF_ixT sF_var sF_int) (sAF_cons (sF_opF oF_ixT sF_var sF_int) sAF_nil))))) (sAF_cons sF_var sAF_nil))) (sG_tup (sGs_cons sG_name (sGs_cons sG_name sGs_nil))) (sS_put2 sF_var (sB_op (OpF.b oF_ixT) sB_var (sB_f sF_int)) (sB_op (OpF.b oF_ixT) sB_var (sB_f sF_int))))
   sS_retV)),?_⟩)
 rintro ds Pr ⟨h,w,L,n,fs,vs,rfl,hb,hl,k⟩
 obtain⟨hh,hw,hL⟩:=hb
 gn_on
 refine⟨⟨by lia,by lia⟩,?_⟩
 refine CmpW.rng (λ_=>.nl (List.replicate w (.fz .non))) (by lia) (λi _ Q q=>?_) ?_
 .fin2
  exact⟨⟨by lia,by lia⟩,q⟩
 have e0:(List.range (h:Int).toNat).map (λ_=>OV.nl (List.replicate w (.fz .non)))=shO h w λi j=>if plIx h w L i j<0 then spD (vs.getD (plIx h w L i j) (0,0)) else .non:=by
  show tab h _=_
  refine tab_ext λi _=>?_
  dsimp only
  congr 1
  have:∀j:Nat,(if plIx h w L i j<0 then spD (vs.getD (plIx h w L i j) (0,0)) else D.non) = .non:=λj=>if_neg (not_lt_zero _)
  simp only[this]
  unfold tab
  rw[List.map_const',length_range]
 rw[e0]
 gp_on
 gn_on
 refine⟨h,w,L,rfl,hh,hw,hL,?_⟩
 fin2
 have hpl:=placesF_len (h:=h) (w:=w) (n:=L)
 have hzl:=zipT_len (xs:=placesF h w L) (ys:=vs) (by lia)
 refine⟨λm M=>∃o3 o4:Option Sl,M=[vD (hdD h w L n fs),vD (.lst (vs.map spD)),some (.own (.nl (shO h w λi j=>if plIx h w L i j<m then spD (vs.getD (plIx h w L i j) (0,0)) else .non))),o3,o4],⟨none,none,rfl⟩,?_,?_⟩
 .rintro m d M hd ⟨o3,o4,rfl⟩
  obtain⟨z,hz,rfl⟩:=mget hd
  rw[getElem?_zip_eq_some,getElem?_map,getElem?_map]at hz
  obtain⟨hz1,hz2⟩:=hz
  obtain⟨p,hp,hp2⟩:=map_eq_some_iff.mp hz1
  obtain⟨s,hs,hs2⟩:=map_eq_some_iff.mp hz2
  rw[<- hp2,<- hs2]
  obtain⟨⟨p0,p1⟩,p2,p3⟩:=placesF_mem (mem_of_getElem? hp)
  have hsD:vs.getD m (0,0)=s:=by rw[getD_eq_getElem?_getD,hs];rfl
  simp only[gT,gsCons,gsNil,gN,length_cons,length_nil,Nat.reduceAdd,true_and,set_cons_succ,set_cons_zero]
  unfold ptD
  fin2
  have hlen:(shO h w λi j=>if plIx h w L i j<m then spD (vs.getD (plIx h w L i j) (0,0)) else .non).length=h:=tab_len
  refine⟨p.1.toNat,tab w λj=>.fz (if plIx h w L p.1.toNat j<m then spD (vs.getD (plIx h w L p.1.toNat j) (0,0)) else .non),by rw[hlen];exact ixN_at p0 p1,tab_get (by lia),p.2.toNat,by rw[tab_len];exact ixN_at p2 p3,?_⟩
  have hpe:p=(((p.1.toNat:Nat):Int),((p.2.toNat:Nat):Int)):=Prod.ext (by dsimp only;lia) (by dsimp only;lia)
  have hput:=shO_put (h:=h) (w:=w) (a:=p.1.toNat) (b:=p.2.toNat) (e:=λi j=>if plIx h w L i j<m then spD (vs.getD (plIx h w L i j) (0,0)) else .non) (d:=spD s)
  have hst:(shO h w λi j=>if i=p.1.toNat/\j=p.2.toNat then spD s else if plIx h w L i j<m then spD (vs.getD (plIx h w L i j) (0,0)) else .non)=shO h w λi j=>if plIx h w L i j<m+1 then spD (vs.getD (plIx h w L i j) (0,0)) else .non:=shO_ext λi j hi hj=>by
   by_cases z:i=p.1.toNat/\j=p.2.toNat
   .obtain ⟨rfl,rfl⟩:=z
    have hx:=plIx_of (L:=L) (k:=m) hi hj (by rw[<- hpe];exact hp)
    rw[if_pos ⟨rfl,rfl⟩,hx,if_pos (by lia),hsD]
   .rw [if_neg z]
    have hne:plIx h w L i j≠m:=λq=>by
     have h1:=plIx_get (L:=L) hi hj
     rw[q,hp]at h1
     have h2:=Option.some.inj h1
     exact z ⟨by rw[h2];rfl,by rw[h2];rfl⟩
    by_cases y:plIx h w L i j<m
    .rw [if_pos y,if_pos (by lia)]
    .rw [if_neg y,if_neg (by lia)]
  rw[<- hst,<- hput]
  exact⟨_,_,rfl⟩
 .rintro M ⟨o3,o4,rfl⟩
  rw[hzl]
  gp_on
  fin2
  have ee:(shO h w λi j=>if plIx h w L i j<vs.length then spD (vs.getD (plIx h w L i j) (0,0)) else .non)=shT spD h w λi j=>vs.getD (plIx h w L i j) (0,0):=by
   show shO h w _=shO h w _
   refine shO_ext λi j hi hj=>?_
   have:=plIx_lt (L:=L) hi hj
   rw[if_pos (by lia)]
  rw[ee]
  exact k
theorem stepG_map' {α β:Type}(f:α->β)(xs:List α)(c:Int):stepG (xs.map f) c=(stepG xs c).map f:=by
 unfold stepG
 rw[length_map,List.map_filterMap]
 congr 1
 funext j
 rw[getElem?_map]
abbrev s_law_drawn_spans:Stmt:=top 60
theorem sc_law_drawn_spans:FnScope ["_law_cells","_law_many","_law_xs","_law_spans_here","_law_k","_law_middle"] ["_law_cells","_law_many"] (defScope s_law_drawn_spans):=by walk_at "S"
def sp_law_drawn_spans:DSp:=λds P=>∃(ns:List Int) (m:Nat),ds=[.lst (ns.map .int),.int m]/\ns.length<=1000/\1<=m/\m<=400/\∀vs:List Sp2,vs.length=m->P (.nl (vs.map λs=>.fz (spD s)))
theorem ok_law_drawn_spans {f:Addr}{fd:FuncData}(Df:DefAt K mg "_law_drawn_spans" s_law_drawn_spans f fd)(B:BltV mg)(KV:KitV K)(c_law_spread:Cal P w K mg base "_law_spread" 1 ["_law_cell","_law_many"] (spV K 2 sp_law_spread)):
  Cal P w K mg base "_law_drawn_spans" 2 ["_law_cells","_law_many"] (spV K 2 sp_law_drawn_spans):=by
 refine CalV.of Df sc_law_drawn_spans (by walk_at "b") rfl (λc A o s H E hr=>⟨_,_,(pss_cons (ps_set (i:=2) sc_law_drawn_spans.nd rfl (Or.inl rfl) (pe_cal c_law_spread (hr.mono (by decide)) (by rfl) (pa_cons (pe_callB call_sumI (by rfl) B.sum boot_sum (pa_cons (pe_step (pv 0) pe_int) pa_nil)) (pa_cons (pv 1) pa_nil))))
   (pss_cons (ps_set (i:=3) sc_law_drawn_spans.nd rfl (Or.inl rfl) (pe_lstS pa_nil))
   (pss_cons (ps_for PassesOwn.never rfl (pi_range1 (by rfl) (by exact B.range) (pa_cons (pv 1) pa_nil)) (pg_name (i:=4) sc_law_drawn_spans.nd rfl (Or.inl rfl)) (pss_cons (ps_set (i:=5) sc_law_drawn_spans.nd rfl (Or.inl rfl) (pe_op op_sub (pe_op op_mod (pe_op op_add (pe_callB call_sumI (by rfl) B.sum boot_sum (pa_cons (pe_stepA (pv 0) (pv 4) (pv 1)) pa_nil)) (pe_op op_pow pe_int pe_int)) (pe_op op_add (pe_op op_mul pe_int (pe_op op_pow pe_int pe_int)) pe_int)) (pe_op op_pow pe_int pe_int)))
   (pss_cons (ps_if (pt_cmpR op_gt (pe_op op_mod (pe_ix ix_list (pv 2) (pv 4) (λ_ _=>rfl)) pe_int) pe_int (nomark _)) (pss_one (ps_set (i:=5) sc_law_drawn_spans.nd rfl (Or.inl rfl) (pe_op op_sub (pe_op op_mod (pv 5) pe_int) pe_int))) pss_nil)
   (pss_one (ps_expr (pe_bm plainAttrs_list PySem.F.slot_list_append PySem.F.type_list_append mt_append (pv 3) (pa_cons (pe_tupS (pa_cons (pe_op op_sub (pv 5) (pe_op op_mod (pe_op op_fdiv (pe_ix ix_list (pv 2) (pv 4) (λ_ _=>rfl)) pe_int) pe_int)) (pa_cons (pe_op op_add (pv 5) (pe_op op_mod (pe_op op_fdiv (pe_ix ix_list (pv 2) (pv 4) (λ_ _=>rfl)) pe_int) pe_int)) pa_nil))) pa_nil)))))))
   (pss_one (ps_ret (pv 3)))))),
  (sS_seq (sS_set (sO_f (sF_o (sO_call (sAF_cons (sF_cb cS_sum (sAB_cons (sB_f (sF_o (sO_slSt sF_var (sB_f sF_int)))) sAB_nil)) (sAF_cons sF_var sAF_nil))))))
   (sS_seq (sS_set (sO_lst sAO_nil))
   (sS_seq (sS_for (sI_rng1 (sAB_cons sB_var sAB_nil)) sG_name (sS_seq (sS_set (sO_f (sF_op oS_i0 (sB_f (sF_op oS_i (sB_f (sF_op oS_i0 (sB_f (sF_cb cS_sum (sAB_cons (sB_f (sF_o (sO_slSA sF_var sB_var sB_var))) sAB_nil))) (sB_f (sF_op oS_i (sB_f sF_int) (sB_f sF_int))))) (sB_f (sF_op oS_i0 (sB_f (sF_op oS_i (sB_f sF_int) (sB_f (sF_op oS_i (sB_f sF_int) (sB_f sF_int))))) (sB_f sF_int))))) (sB_f (sF_op oS_i (sB_f sF_int) (sB_f sF_int))))))
   (sS_seq (sS_if (sT_test (sF_op oS_b0 (sB_f (sF_op oS_i (sB_op (OpF.b oF_ixL) sB_var sB_var) (sB_f sF_int))) (sB_f sF_int))) (sS_set (sO_f (sF_op oS_i0 (sB_f (sF_op oS_i sB_var (sB_f sF_int))) (sB_f sF_int)))) sS_next)
   (sS_app (sO_f (sF_tup (sAF_cons (sF_op oS_i0 sB_var (sB_f (sF_op oS_i (sB_f (sF_op oS_i (sB_op (OpF.b oF_ixL) sB_var sB_var) (sB_f sF_int))) (sB_f sF_int)))) (sAF_cons (sF_op oS_i0 sB_var (sB_f (sF_op oS_i (sB_f (sF_op oS_i (sB_op (OpF.b oF_ixL) sB_var sB_var) (sB_f sF_int))) (sB_f sF_int)))) sAF_nil))))))))
   sS_retV))),?_⟩)
 rintro ds Pr ⟨ns,m,rfl,hl,m1,m4,k⟩
 gn_on
 have ev:List.map OV.val (List.map OV.fz (stepG (List.map D.int ns) 2))=List.map D.int (stepG ns 2):=by
  rw[stepG_map',map_map,map_map];rfl
 refine⟨_,ev,_,m,rfl,by lia,λxs hx=>?_⟩
 try dsimp only
 rw[show (OV.nl (xs.map λx=>OV.fz (.int x))).val = .lst (xs.map D.int) by simp only[OV.val,OV.vals_eq,map_map,Function.comp_def]]
 gp_on
 gn_on
 gp_on
 gn_on
 refine⟨⟨by lia,by lia⟩,λi M=>∃(vs:List Sp2) (o4 o5:Option Sl),M=[vD (.lst (ns.map D.int)),vI m,vD (.lst (xs.map D.int)),some (.own (.nl (vs.map λs=>.fz (spD s)))),o4,o5]/\vs.length=i,⟨[],none,none,rfl,rfl⟩,?_,?_⟩
 .rintro i d M hd ⟨vs,o4,o5,rfl,hvl⟩
  obtain⟨hi,rfl⟩:=rng_inv hd
  simp only[gN,set_cons_succ,set_cons_zero]
  gn_on
  have evA:∀a c:Int,List.map OV.val (List.map OV.fz (stepA (List.map D.int ns) a c))=List.map D.int (stepA ns a c):=λa c=>by
   rw[stepA_map,map_map,map_map];rfl
  refine⟨⟨by lia,by lia⟩,_,evA _ _,?_⟩
  rw[show (0:Int)+(i:Int)*1=i by lia]
  generalize ((stepA ns (i:Int) m).sum+1000000000000000000000000000000000000000000000000000000000000)%2000000000000000000000000000000000000000000000000000000000001-1000000000000000000000000000000000000000000000000000000000000=mid
  gp_on
  gn_on
  have hxi:atI (xs.map D.int) (i:Int)=some (.int (xs.getD i 0)):=by
   refine atI_nat (j:=i) ?_
   rw[getElem?_map,getD_eq_getElem?_getD,getElem?_eq_getElem (by lia)];rfl
  refine⟨_,hxi,by decide,?_⟩
  have fin:∀mid:Int,N [vD (.lst (ns.map D.int)),vI m,vD (.lst (xs.map D.int)),some (.own (.nl (vs.map λs=>.fz (spD s)))),vI i,vI mid]:=λmid=>by
   gp_on
   fin2
   refine⟨by lia,_,hxi,by decide,_,hxi,by decide,vs++[(mid-xs.getD i 0 / 3%40,mid+xs.getD i 0 / 120%40)],vI i,vI mid,?_,by simp[hvl]⟩
   rw[map_append]
   rfl
  split
  .exact fin _
  .exact fin _
 .rintro M ⟨vs,o4,o5,rfl,hvl⟩
  rw[rng_len]at hvl
  gp_on
  fin2
  exact k vs (by lia)
theorem ifN {c A B:Prop}[Decidable c](h:¬ c)(k:B):if c then A else B:=by rw[if_neg h];exact k
def frzB:Option Sl->Bool
 |none=>true
 |some (.own (.fz _))=>true
 |_=>false
theorem frz_all {M:Dst}(h:M.all frzB=true)(i:Nat)(sl:Sl)(e:M[i]?=some (some sl)):∃d,sl = .own (.fz d):=by
 have:=all_eq_true.mp h _ (mem_of_getElem? e)
 unfold frzB at this
 split at this
 .rename_i z;cases z
 .rename_i d z;cases z;exact⟨_,rfl⟩
 .cases this
theorem fit_sh {h w:Nat}{e:Nat->Nat->Sp2}:(D.lst (shV spD h w e)).fit 4=true:=fit_shS
abbrev s_law:Stmt:=top 61
theorem sc_law:FnScope ["_law_script","_law_way","_law_high","_law_wide","_law_ladder_here","_law_levels","_law_head","_law_spans_here","_law_top","_law_left","_law_tall","_law_across","_law_order_here","_law_listed","_law_place","_law_others","_law_span_here","_law_found","_law_kept","_law_sheet_here"] ["_law_script"] (defScope s_law):=by walk_at "S"
theorem ok_law {f:Addr}{fd:FuncData}(Df:DefAt K mg "law" s_law f fd)(B:BltV mg)(KV:KitV K)(c_law_cell_at:Cal P w K mg base "_law_cell_at" 1 ["_law_script","_law_k"] (spV K 2 sp_law_cell_at))(c_law_sizes:Cal P w K mg base "_law_sizes" 1 ["_law_way","_law_cell"] (spV K 2 sp_law_sizes))(c_law_how:Cal P w K mg base "_law_how" 3 ["_law_way","_law_cell","_law_other"] (spV K 3 sp_law_how))(c_law_drawn_spans:Cal P w K mg base "_law_drawn_spans" 2 ["_law_cells","_law_many"] (spV K 2 sp_law_drawn_spans))(c_law_rectangle:Cal P w K mg base "_law_rectangle" 1 ["_law_cells","_law_high","_law_wide"] (spV K 3 sp_law_rectangle))(c_law_order:Cal P w K mg base "_law_order" 1 ["_law_high","_law_wide","_law_levels"] (spV K 3 sp_law_order))(c_cone:Cal P w K mg base "cone" 4 ["head","top","left","high","wide"] (spV K 5 sp_cone))(c_piece:Cal P w K mg base "piece" 8 ["head","spans","top","left","high","wide"] (spV K 6 sp_piece))(c_law_is_sheet:Cal P w K mg base "_law_is_sheet" 4 ["_law_found","_law_high","_law_wide"] (spV K 3 sp_law_is_sheet))(c_opened_spans:CalD P w K mg base "opened_spans" 6 ["sheet","ladder","levels","down"] (spV K 4 sp_opened_spans) [.int 0])(c_law_sheet:Cal P w K mg base "_law_sheet" 2 ["_law_head","_law_things"] (spV K 2 sp_law_sheet)):
  FnOk P w K mg base CX0 9 f fd ["_law_script"] (spLaw K):=by
 refine law_ok Df sc_law (λc A o s H E hr=>⟨_,_,(pss_cons (ps_set (i:=1) sc_law.nd rfl (Or.inl rfl) (pe_op op_mod (pe_cal c_law_cell_at (hr.mono (by decide)) (by rfl) (pa_cons (pv 0) (pa_cons pe_int pa_nil))) pe_int))
   (pss_cons (ps_asg (pe_cal c_law_sizes (hr.mono (by decide)) (by rfl) (pa_cons (pv 1) (pa_cons (pe_op op_fdiv (pe_cal c_law_cell_at (hr.mono (by decide)) (by rfl) (pa_cons (pv 0) (pa_cons pe_int pa_nil))) pe_int) pa_nil))) (pg_tup (n:=2) rfl (pgs_cons (pg_name (i:=2) sc_law.nd rfl (Or.inl rfl)) (pgs_cons (pg_name (i:=3) sc_law.nd rfl (Or.inl rfl)) pgs_nil))))
   (pss_cons (ps_asg (pe_cal c_law_how (hr.mono (by decide)) (by rfl) (pa_cons (pv 1) (pa_cons (pe_cal c_law_cell_at (hr.mono (by decide)) (by rfl) (pa_cons (pv 0) (pa_cons pe_int pa_nil))) (pa_cons (pe_cal c_law_cell_at (hr.mono (by decide)) (by rfl) (pa_cons (pv 0) (pa_cons pe_int pa_nil))) pa_nil)))) (pg_tup (n:=2) rfl (pgs_cons (pg_name (i:=4) sc_law.nd rfl (Or.inl rfl)) (pgs_cons (pg_name (i:=5) sc_law.nd rfl (Or.inl rfl)) pgs_nil))))
   (pss_cons (ps_if (pt_cmpR op_eq (pe_op op_mul (pv 2) (pv 3)) pe_int (nomark _)) (pss_one (ps_set (i:=5) sc_law.nd rfl (Or.inl rfl) pe_int)) pss_nil)
   (pss_cons (ps_set (i:=6) sc_law.nd rfl (Or.inl rfl) (pe_tupS (pa_cons (pv 2) (pa_cons (pv 3) (pa_cons (pv 5) (pa_cons pe_int (pa_cons (pv 4) pa_nil)))))))
   (pss_cons (ps_set (i:=7) sc_law.nd rfl (Or.inl rfl) (pe_cal c_law_drawn_spans (hr.mono (by decide)) (by rfl) (pa_cons (pe_slice (sl_listK (K:=K) rfl) (pv 0) (po_some pe_int) po_none) (pa_cons (pe_op op_mul (pv 2) (pv 3)) pa_nil))))
   (pss_cons (ps_asg (pe_cal c_law_rectangle (hr.mono (by decide)) (by rfl) (pa_cons (pe_slice (sl_listK (K:=K) rfl) (pv 0) (po_some pe_int) po_none) (pa_cons (pv 2) (pa_cons (pv 3) pa_nil)))) (pg_tup (n:=4) rfl (pgs_cons (pg_name (i:=8) sc_law.nd rfl (Or.inl rfl)) (pgs_cons (pg_name (i:=9) sc_law.nd rfl (Or.inr rfl)) (pgs_cons (pg_name (i:=10) sc_law.nd rfl (Or.inl rfl)) (pgs_cons (pg_name (i:=11) sc_law.nd rfl (Or.inr rfl)) pgs_nil))))))
   (pss_cons (ps_set (i:=12) sc_law.nd rfl (Or.inl rfl) (pe_cal c_law_order (hr.mono (by decide)) (by rfl) (pa_cons (pv 2) (pa_cons (pv 3) (pa_cons (pv 5) pa_nil)))))
   (pss_cons (ps_set (i:=13) sc_law.nd rfl (Or.inl rfl) (pe_dnewX (P:=P) (w:=w) rfl rfl))
   (pss_cons (ps_for PassesOwn.never rfl (pi_list (pe_cal c_cone (hr.mono (by decide)) (by rfl) (pa_cons (pv 6) (pa_cons (pv 8) (pa_cons (pv 9) (pa_cons (pv 10) (pa_cons (pv 11) pa_nil))))))) (pg_name (i:=14) sc_law.nd rfl (Or.inl rfl)) (pss_one (ps_dputX (P:=P) (w:=w) (K:=K) rfl rfl rfl (by have:=hr.un;show Around.units (A.deeper _)+1<cLine;omega) (pv 13) (pv 14) pe_bl (by rfl))))
   (pss_cons (ps_set (i:=15) sc_law.nd rfl (Or.inl rfl) (pe_lstS pa_nil))
   (pss_cons (ps_for PassesOwn.never rfl (pi_zip rfl B.zip (pa_cons (pv 12) (pa_cons (pv 7) pa_nil))) (pg_tup (n:=2) rfl (pgs_cons (pg_name (i:=14) sc_law.nd rfl (Or.inl rfl)) (pgs_cons (pg_name (i:=16) sc_law.nd rfl (Or.inl rfl)) pgs_nil))) (pss_one (ps_if (pt_cmp (pc_dinX (P:=P) (w:=w) (K:=K) (pv 14) (pv 13) (by rfl) (by rfl) (by rfl) (by have:=hr.un;show Around.units (A.deeper _)+1<cLine;omega))) (pss_one (ps_expr (pe_bm plainAttrs_list PySem.F.slot_list_append PySem.F.type_list_append mt_append (pv 15) (pa_cons (pv 16) pa_nil)))) (pss_one (ps_expr (pe_bm plainAttrs_list PySem.F.slot_list_append PySem.F.type_list_append mt_append (pv 15) (pa_cons (pe_tupS (pa_cons (pe_op op_add (pe_ix ix_tup (pv 16) pe_int (λ_ _=>rfl)) (pe_op op_pow pe_int pe_int)) (pa_cons (pe_op op_add (pe_ix ix_tup (pv 16) pe_int (λ_ _=>rfl)) (pe_op op_mul pe_int (pe_op op_pow pe_int pe_int))) pa_nil))) pa_nil)))))))
   (pss_cons (ps_set (i:=17) sc_law.nd rfl (Or.inl rfl) (pe_cal c_piece (hr.mono (by decide)) (by rfl) (pa_cons (pv 6) (pa_cons (pe_callTy call_listS (by rfl) B.list PyProof.Rows.boot_list (pa_cons (pv 7) pa_nil)) (pa_cons (pv 8) (pa_cons (pv 9) (pa_cons (pv 10) (pa_cons (pv 11) pa_nil))))))))
   (pss_cons (ps_if (pt_not (pt_val (pe_cal c_law_is_sheet (hr.mono (by decide)) (by rfl) (pa_cons (pv 17) (pa_cons (pv 10) (pa_cons (pv 11) pa_nil)))))) (pss_one (ps_ret pe_bl)) pss_nil)
   (pss_cons (ps_setComp (i:=18) sc_law.nd rfl (Or.inl rfl) rfl (pi_list (pv 17)) (show BlkScope (defScope s_law) _ from⟨rfl,by decide +kernel,by decide +kernel,by decide +kernel⟩) (N:=["_law_row"]) (ix:=[none]) (show CapOf _ _ _ _ from trivial) (λ_ _ _=>(pg_name (i:=0) (show List.Nodup (["_law_row"]:List Str) by decide +kernel) rfl (Or.inl rfl))) (λ_ _ _=>(pe_callTy call_listS (by rfl) B.list PyProof.Rows.boot_list (pa_cons (pv 0) pa_nil))))
   (pss_cons (ps_if (pw_or (pt_cmpR (op_neN hr.units) (pe_cal c_piece (hr.mono (by decide)) (by rfl) (pa_cons (pv 6) (pa_cons (pv 15) (pa_cons (pv 8) (pa_cons (pv 9) (pa_cons (pv 10) (pa_cons (pv 11) pa_nil))))))) (pv 18) (nomark _)) (pw_or1 (pt_cmpR (op_neN hr.units) (pv 17) (pv 18) (nomark _)))).pt (pss_one (ps_ret pe_bl)) pss_nil)
   (pss_cons (ps_set (i:=19) sc_law.nd rfl (Or.inl rfl) (pe_calD c_opened_spans (hr.mono (by decide)) (by rfl) (pa_cons (pe_cal c_law_sheet (hr.mono (by decide)) (by rfl) (pa_cons (pv 6) (pa_cons (pv 7) pa_nil))) (pa_cons (pv 4) (pa_cons (pv 5) pa_nil)))))
   (pss_one (ps_ret (pe_cmpR (op_eqN hr.units) (pv 17) (pe_comp rfl (pi_list (pe_slice (sl_listK (K:=K) rfl) (pv 19) (po_some (pv 8)) (po_some (pe_op op_add (pv 8) (pv 10))))) (show BlkScope (defScope s_law) _ from⟨rfl,by decide +kernel,by decide +kernel,by decide +kernel⟩) (N:=["_law_row","_law_left","_law_across"]) (ix:=[none,some 9,some 11]) (show CapOf _ _ _ _ from⟨⟨rfl,rfl,.inl rfl⟩,⟨rfl,rfl,.inl rfl⟩,trivial⟩) (λ_ _ _=>(pg_name (i:=0) (show List.Nodup (["_law_row","_law_left","_law_across"]:List Str) by decide +kernel) rfl (Or.inl rfl))) (λ_ _ _=>(pe_slice (sl_listK (K:=K) rfl) (pv 0) (po_some (pv 1)) (po_some (pe_op op_add (pv 1) (pv 2)))))) (nomark _))))))))))))))))))))),
  (sS_seq (sS_set (sO_f (sF_op oS_i (sB_f (sF_o (sO_call (sAF_cons sF_var (sAF_cons sF_int sAF_nil))))) (sB_f sF_int))))
   (sS_seq (sS_asg (sF_o (sO_call (sAF_cons sF_var (sAF_cons (sF_op oS_i (sB_f (sF_o (sO_call (sAF_cons sF_var (sAF_cons sF_int sAF_nil))))) (sB_f sF_int)) sAF_nil)))) (sG_tup (sGs_cons sG_name (sGs_cons sG_name sGs_nil))))
   (sS_seq (sS_asg (sF_o (sO_call (sAF_cons sF_var (sAF_cons (sF_o (sO_call (sAF_cons sF_var (sAF_cons sF_int sAF_nil)))) (sAF_cons (sF_o (sO_call (sAF_cons sF_var (sAF_cons sF_int sAF_nil)))) sAF_nil))))) (sG_tup (sGs_cons sG_name (sGs_cons sG_name sGs_nil))))
   (sS_seq (sS_if (sT_test (sF_op oS_eq (sB_f (sF_op oS_i sB_var sB_var)) (sB_f sF_int))) (sS_set (sO_f sF_int)) sS_next)
   (sS_seq (sS_set (sO_f (sF_tup (sAF_cons sF_var (sAF_cons sF_var (sAF_cons sF_var (sAF_cons sF_int (sAF_cons sF_var sAF_nil))))))))
   (sS_seq (sS_set (sO_f (sF_o (sO_call (sAF_cons (sF_o (sO_slL sF_var (sP_pt (sB_f sF_int)) sP_no)) (sAF_cons (sF_op oS_i sB_var sB_var) sAF_nil))))))
   (sS_seq (sS_asg (sF_o (sO_call (sAF_cons (sF_o (sO_slL sF_var (sP_pt (sB_f sF_int)) sP_no)) (sAF_cons sF_var (sAF_cons sF_var sAF_nil))))) (sG_tup (sGs_cons sG_name (sGs_cons sG_name (sGs_cons sG_name (sGs_cons sG_name sGs_nil))))))
   (sS_seq (sS_set (sO_f (sF_o (sO_call (sAF_cons sF_var (sAF_cons sF_var (sAF_cons sF_var sAF_nil)))))))
   (sS_sel (P:=P) (w:=w) (iL:=13) (iP:=14) (iO:=15) (iR:=12) (iS:=7) (iH:=16) (by decide) (sO_call (sAF_cons sF_var (sAF_cons sF_var (sAF_cons sF_var (sAF_cons sF_var (sAF_cons sF_var sAF_nil)))))) (sS_seq (sS_set (sO_f (sF_o (sO_call (sAF_cons sF_var (sAF_cons (sF_o (sO_cb cO_list (sAF_cons sF_var sAF_nil))) (sAF_cons sF_var (sAF_cons sF_var (sAF_cons sF_var (sAF_cons sF_var sAF_nil))))))))))
   (sS_seq (sS_if (sT_not (sT_b (sF_o (sO_call (sAF_cons sF_var (sAF_cons sF_var (sAF_cons sF_var sAF_nil))))))) (sS_ret (sO_f sF_bl)) sS_next)
   (sS_seq (sS_set (sO_f (sF_o (sO_comp (sI_list sF_var) sG_name (sO_cb cO_list (sAF_cons sF_var sAF_nil))))))
   (sS_seq (sS_if (sT_or (sT_test (sF_op oS_neN (sB_f (sF_o (sO_call (sAF_cons sF_var (sAF_cons sF_var (sAF_cons sF_var (sAF_cons sF_var (sAF_cons sF_var (sAF_cons sF_var sAF_nil))))))))) sB_var)) (sT_test (sF_op oS_neN sB_var sB_var))) (sS_ret (sO_f sF_bl)) sS_next)
   (sS_seq (sS_set (sO_f (sF_o (sO_callD (dds:=[.int 0]) (λ_=>⟨_,_,rfl,rfl,rfl⟩) (sAF_cons (sF_o (sO_call (sAF_cons sF_var (sAF_cons sF_var sAF_nil)))) (sAF_cons sF_var (sAF_cons sF_var sAF_nil)))))))
   (sS_ret (sO_f (sF_op oS_eqN sB_var (sB_f (sF_o (sO_comp (sI_list (sF_o (sO_slL sF_var (sP_pt sB_var) (sP_pt (sB_f (sF_op oS_i0 sB_var sB_var)))))) sG_name (sO_slL sF_var (sP_pt sB_var) (sP_pt (sB_f (sF_op oS_i0 sB_var sB_var)))))))))))))))))))))))),?_⟩)
 intro ns hns
 gn_on
 refine⟨ns,0,rfl,by decide,?_⟩
 fin2
 gp_on
 have hw0:=emod_nonneg (ns.getD 0 0) (show (8:Int)≠0 by decide)
 have hw8:=emod_lt_of_pos (ns.getD 0 0) (show (0:Int)<8 by decide)
 generalize ns.getD 0 0%8=way at hw0 hw8
 gn_on
 refine⟨ns,0,rfl,by decide,?_⟩
 fin2
 refine⟨_,_,rfl,hw0,hw8,λa b a1 a2 b1 b2 hab _=>?_⟩
 try fin2
 gp_on
 gn_on
 refine⟨ns,1,rfl,by decide,?_⟩
 fin2
 refine⟨ns,2,rfl,by decide,?_⟩
 fin2
 refine⟨_,_,_,rfl,λfs L hf3 oks hL6 _=>?_⟩
 try fin2
 gp_on
 gn_on
 have eab:(a:Int)*b=((a*b:Nat):Int):=rfl
 rw[eab]
 refine⟨.inl ⟨by lia,by lia⟩,?_⟩
 have go:∀L:Nat,L<=6->N [vD (.lst (ns.map D.int)),vI way,vI a,vI b,vD (ladD fs),vI L,none,none,none,none,none,none,none,none,none,none,none,none,none,none]:=λL hL6=>by
  gp_on
  gn_on
  gp_on
  gn_on
  rw[eab]
  have ec:∀l:List D,List.map OV.val (List.map OV.fz l)=l:=λl=>by rw[map_map];exact map_id l
  have cm:∀c:Nat,L2.cutD (List.map D.int ns) (some (c:Int)) none=((ns.drop (HT.sIx ns.length 0 (some (c:Int)))).take (HT.sIx ns.length ns.length none-HT.sIx ns.length 0 (some (c:Int)))).map D.int:=λc=>by
   unfold L2.cutD
   rw[length_map,<- map_drop,<- List.map_take]
  have a1':1<=a*b:=mul_le_mul a1 b1
  refine⟨.inl ⟨by lia,by lia⟩,_,a*b,by rw[ec];exact congrArg (λx=>[D.lst x,_]) (cm 3),by rw[length_take,length_drop];lia,a1',hab,λvs hvl=>?_⟩
  try dsimp only
  rw[show (OV.nl (vs.map λs=>OV.fz (spD s))).val = .lst (vs.map spD) by simp only[OV.val,OV.vals_eq,map_map,Function.comp_def]]
  gp_on
  gn_on
  refine⟨_,a,b,by rw[ec];exact congrArg (λx=>[D.lst x,_,_]) (cm 2),by rw[length_take,length_drop];lia,a1,b1,λt l hh ww c1 c2 c3 c4=>?_⟩
  try fin2
  gp_on
  gn_on
  refine⟨a,b,L,rfl,by lia,by lia,hL6,?_⟩
  try fin2
  gp_on
  have hpl:=placesF_len (h:=a) (w:=b) (n:=L)
  have hf6:fs.length<=6:=by lia
  refine⟨placesF a b L,coneL a b L t l hh ww fs,vs,⟨by simp,by simp,by simp,by simp⟩,frz_all rfl,rfl,rfl,?_,coneL_len a2 b2 hL6,by lia,by lia,?_⟩
  .fin2
   exact⟨a,b,L,4000,t,l,hh,ww,fs,rfl,⟨c1,c2,a2⟩,⟨c3,c4,b2⟩,hL6,oks,hf6,rfl⟩
  gn_on
  obtain⟨os,hos⟩:∃os,((placesF a b L).zip vs).map (λp=>if p.1∈coneL a b L t l hh ww fs then p.2 else farS p.2)=os:=⟨_,rfl⟩
  have hol:os.length=a*b:=by rw[<- hos,length_map,length_zip];lia
  rw[hos]
  obtain⟨tgt,htgt⟩:∃tgt:Nat->Nat->Sp2,tgt=λi j=>openF (0,0) (λk=>gLower (0,0) sDown fs (2^k:Nat)) a b L 0 (λi j=>vs.getD (plIx a b L i j) (0,0)) (t+i) (l+j):=⟨_,rfl⟩
  have same:∀us:List Sp2,us.length=a*b->(∀i j:Nat,i<a->j<b->((i:Int),(j:Int))∈coneL a b L t l hh ww fs->us.getD (plIx a b L i j) (0,0)=vs.getD (plIx a b L i j) (0,0))->
    (shT spD hh ww λi j=>openF (0,0) (λk=>gLower (0,0) sDown fs (2^k:Nat)) a b L 0 (λi j=>(knownL a b L t l hh ww fs us).getD (plIx a b L i j) (0,0)) (t+i) (l+j))=shT spD hh ww tgt:=λus hul hu=>by
   rw[htgt]
   refine shT_ext λi j hi hj=>piece_same oks c2 c4 (λi j hi hj hC=>?_) i j hi hj
   rw[known_get hi hj hul,if_pos hC]
   exact hu i j hi hj hC
  have same1:=same vs hvl λ_ _ _ _ _=>rfl
  have same2:=same os hol λi j hi hj hC=>by rw[<- hos,sel_get hi hj hvl,if_pos hC]
  clear same hos
  refine⟨a,b,L,4000,t,l,hh,ww,fs,vs,by rw[ec];rfl,⟨c1,c2,a2⟩,⟨c3,c4,b2⟩,hL6,oks,hf6,hvl,?_⟩
  rw[same1]
  clear same1
  try dsimp only
  rw[show (OV.nl (shT spD hh ww tgt)).val = .lst (shV spD hh ww tgt) by rw[OV.val,OV.vals_eq,shT_val]]
  gp_on
  gn_on
  refine⟨hh,ww,tgt,rfl,by lia,by lia,?_⟩
  fin2
  gp_on
  gn_on
  refine copy_rows (by lia) ?_
  rw[show (OV.nl (shT spD hh ww tgt)).val = .lst (shV spD hh ww tgt) by rw[OV.val,OV.vals_eq,shT_val]]
  gp_on
  gn_on
  have ft:=fit_sh (h:=hh) (w:=ww) (e:=tgt)
  have eq:=D.eqb_refl ft
  refine⟨a,b,L,4000,t,l,hh,ww,fs,os,rfl,⟨c1,c2,a2⟩,⟨c3,c4,b2⟩,hL6,oks,hf6,hol,?_⟩
  rw[same2]
  clear same2
  try dsimp only
  rw[show (OV.nl (shT spD hh ww tgt)).val = .lst (shV spD hh ww tgt) by rw[OV.val,OV.vals_eq,shT_val]]
  refine⟨rfl,ft,ft,?_⟩
  refine ifN (by rw[eq];decide) ⟨ft,ft,?_⟩
  refine ifN (by rw[eq];decide) ?_
  gp_on
  gn_on
  refine⟨a,b,L,4000,fs,vs,rfl,⟨by lia,by lia,hL6⟩,hvl,?_⟩
  try dsimp only
  rw[show (OV.nl (shT spD a b λi j=>vs.getD (plIx a b L i j) (0,0))).val = .lst (shV spD a b λi j=>vs.getD (plIx a b L i j) (0,0)) by rw[OV.val,OV.vals_eq,shT_val]]
  refine⟨a,b,_,fs,L,0,rfl,oks,hL6,by decide,by lia,by lia,by lia,?_⟩
  try dsimp only
  rw[show ∀e:Nat->Nat->Sp2,(OV.nl (shT spD a b e)).val = .lst (shV spD a b e) from λe=>by rw[OV.val,OV.vals_eq,shT_val]]
  gp_on
  fin2
  rw[ec]
  unfold shV
  rw[cut_tab c2]
  refine CmpW.map (List.range hh) (λi=>D.lst (tab b λj=>spD (openF (0,0) (λk=>gLower (0,0) sDown fs (2^k:Nat)) a b L 0 (λi j=>vs.getD (plIx a b L i j) (0,0)) (t+i) j))) (λi=>.nl (tab ww λj=>.fz (spD (tgt i j)))) (by rw[length_range];lia) (λi _ Q q=>?_) ?_
  .fin2
   rw[cut_tab c4,tab_map]
   rw[htgt]at q
   exact q
  .try dsimp only
   rw[show (OV.nl ((List.range hh).map λi=>OV.nl (tab ww λj=>OV.fz (spD (tgt i j))))).val = .lst (shV spD hh ww tgt) from by rw[OV.val,OV.vals_eq];exact congrArg D.lst (shT_val (e:=tgt))]
   exact⟨rfl,ft,ft,by rw[show (D.lst (tab hh λi=>D.lst (tab ww λj=>spD (tgt i j)))).eqb (D.lst (shV spD hh ww tgt))=true from eq]⟩
 split
 .exact go 3 (by decide)
 .exact go L hL6
end
theorem csts {w:World}{K:Frag}{h:Heap}{mg:Str->Option Value}(X:K.In h)(G:h.Ns mainGlobals mg)
  (v_LEFT_OUT:nsIn K mainGlobals "LEFT_OUT"=some (some (.ref aT_LEFT_OUT))) (lv_LEFT_OUT:K.lookup aT_LEFT_OUT=some ⟨.type "tuple",od_LEFT_OUT,.seq #[.int 0 tk_LEFT_OUT_0,.int 0 tk_LEFT_OUT_1] nT_LEFT_OUT,sl_LEFT_OUT⟩):
  TupC K mg "LEFT_OUT" (D.tup [.int 0,.int 0]):=
 ⟨_,mg_of X G v_LEFT_OUT,λF=>(t2 lv_LEFT_OUT F)⟩
end Lw
namespace PySem.W.Fast
def tw6798534759312154539:=Nat
def tw13821658548211286316:=Nat
def tw2046588179228538150:=Nat
def tw5309126424487114247:=Nat
def tw7331855113070015352:=Nat
def tw1675715394601962051:=Nat
def tw10400144756921798144:=Nat
def tw1292823555728820826:=Nat
def tw2475274975186708898:=Nat
def tw15096155612367562189:=Nat
def tw5402400353050758909:=Nat
def tw6529854450363484424:=Nat
def tw1048332719540833007:=Nat
def tw5480100098457451461:=Nat
def tw4545032981337589358:=Nat
def tw12455940121269292061:=Nat
def tw1817023754157185506:=Nat
def tw9111659232013993325:=Nat
def tw2476538073039013910:=Nat
def tw16617130903500144913:=Nat
def tw7838905297971378326:=Nat
def tw18112976396171095533:=Nat
def tw11286332426700415329:=Nat
def tw6442142999135730284:=Nat
def tw4428080511969032886:=Nat
def tw7247971031490564838:=Nat
def tw6934969200603076189:=Nat
def tw1065673677805914799:=Nat
def tw13423112392655492576:=Nat
def tw14628958867046267457:=Nat
def tw5032142679010414512:=Nat
def tw12472339275631497351:=Nat
def tw1397806177204725118:=Nat
def tw6020129030971546690:=Nat
def tw3441200280668296244:=Nat
def tw9608850640529528379:=Nat
def tw2400478517561139657:=Nat
def tw17824607244899757713:=Nat
def tw4304178608137402815:=Nat
def tw4240835936831849581:=Nat
def tw10179798802144867124:=Nat
def tw1232385733051868310:=Nat
def tw14789605876722358920:=Nat
def tw8157644175817521446:=Nat
def tw2957328663394280349:=Nat
def tw317797863584602397:=Nat
def tw5338806212808937323:=Nat
def tw10419279778174695544:=Nat
def tw1732203034123016237:=Nat
def tw11797291829155160709:=Nat
def tw5308896104028664212:=Nat
def tw17029188805201349567:=Nat
def tw2713478713816329843:=Nat
def tw852806501304560619:=Nat
def tw11233219601804719227:=Nat
def tw12838788483037943207:=Nat
def tw190199942096081411:=Nat
def tw284914587564642793:=Nat
def tw6392449280537589092:=Nat
def tw17241759761790457175:=Nat
def tw13463659092803334481:=Nat
def tw306371335222573000:=Nat
def tw14305023844755967350:=Nat
def tw9307845824765305602:=Nat
def tw10378268386063716164:=Nat
def tw9898157032264078882:=Nat
def tw16974359148785774445:=Nat
def tw4401417597204954093:=Nat
def tw9555164358060024183:=Nat
def tw10406103791232987195:=Nat
def tw6605258521038241800:=Nat
def tw4499782747308302614:=Nat
def tw4070379938022090404:=Nat
def tw13346918530139502755:=Nat
def tw2141264307359611067:=Nat
def tw10571668515007110023:=Nat
def tw4772580398922519621:=Nat
def tw9982831126795046914:=Nat
def tw7584375392916843157:=Nat
def tw9396510607020796211:=Nat
def tw16668357698529949793:=Nat
def tw5619882692987948351:=Nat
def tw9078541514811197707:=Nat
def tw11538262679746010331:=Nat
def tw8514751579832716868:=Nat
def tw8767262313644874599:=Nat
def tw17579706092104822550:=Nat
def tw4062542656213684127:=Nat
def tw6969703552359337908:=Nat
def tw1472087440185841969:=Nat
def tw9021188620082320044:=Nat
def tw13072036430053550312:=Nat
def tw7795893511590544703:=Nat
def tw18386807576310360034:=Nat
def tw3517371368307535222:=Nat
def tw9258810002763185857:=Nat
def tw5505872406329251268:=Nat
def tw7646825953323422585:=Nat
def tw4141016364713404080:=Nat
def tw8094088283951533102:=Nat
def tw8703998304486565591:=Nat
def tw6586859078918627267:=Nat
def tw15207450944996767349:=Nat
def tw16691232313465020441:=Nat
def tw16930985178447312266:=Nat
def tw13581789657672402679:=Nat
def tw14224556881681723592:=Nat
def tw11262964060130738126:=Nat
def tw10697744363870804994:=Nat
def tw1876238746170910063:=Nat
def tw10237127904662957359:=Nat
def tw4080099611712600456:=Nat
def tw13252441545164142919:=Nat
def tw5635523120315436168:=Nat
def tw4032606956721622538:=Nat
def tw11592457439223614662:=Nat
def tw2105458282501992818:=Nat
def tw6615949409746677359:=Nat
def tw13102703752499645656:=Nat
def tw7823614318081734798:=Nat
def tw12721347995947158986:=Nat
def tw10532469410796789319:=Nat
def tw5146164586207865480:=Nat
def tw9233199228776184002:=Nat
def tw9754711587830307973:=Nat
def tw10595641009587169128:=Nat
def tw3409225957948114055:=Nat
def tw12742473226985918682:=Nat
def tw15575649848409918592:=Nat
def tw13439794399520507847:=Nat
def tw2890824315987901088:=Nat
def tw18178729507306909722:=Nat
def tw14594248586792956098:=Nat
def tw3320625829439258550:=Nat
def tw8971788415461649868:=Nat
def tw2357514649508110802:=Nat
def tw9147255678567905399:=Nat
def tw5299355015201482422:=Nat
def tw5733140672673096239:=Nat
def tw1677288701426266172:=Nat
def tw11726226757097888492:=Nat
def tw655814609086107324:=Nat
def tw11854325883540589007:=Nat
def tw7935264064604066628:=Nat
def tw16738073752171677770:=Nat
def tw3257978650905756301:=Nat
def tw1048625030756329583:=Nat
def tw569737883129101076:=Nat
def tw6466190787619883419:=Nat
def tw14177552285597096728:=Nat
def tw8859763451915749294:=Nat
def tw16143939763024991008:=Nat
def tw13686565695323623094:=Nat
def tw17875332911127397806:=Nat
def tw9608902927541107754:=Nat
def tw684524517389343031:=Nat
def tw17245619977860273788:=Nat
def tw3063597153602320215:=Nat
def tw14017092127785702349:=Nat
def tw13905331516254843355:=Nat
def tw6265294259859447889:=Nat
def tw394256159013017083:=Nat
def tw4402618564565064818:=Nat
def tw11286482006064239828:=Nat
def tw16609926083403173369:=Nat
def tw5280593255790484067:=Nat
def tw18149383145835653332:=Nat
def tw16175281229388708196:=Nat
def tw4222332028319190641:=Nat
def tw16081466241558270448:=Nat
def tw15744580929488487206:=Nat
def tw16569174699537100542:=Nat
def tw6511614587383860115:=Nat
def tw368452437731113373:=Nat
def tw11795981870544912321:=Nat
def tw6132591941529449279:=Nat
def tw3226046087551112997:=Nat
def tw8149458430187805939:=Nat
def tw5553770844880194683:=Nat
def tw2967607470601323319:=Nat
def tw14429604198589814750:=Nat
def tw4145122305751779926:=Nat
def tw6413992511315001881:=Nat
def tw14135547703469839269:=Nat
def tw18272891318795916062:=Nat
def tw16132456902282756203:=Nat
def tw4291046951317581984:=Nat
def tw1546147204285464986:=Nat
def tw9936593344548549535:=Nat
def tw15158473348555159798:=Nat
def tw2479457502265081259:=Nat
def tw14055494392489289653:=Nat
def tw4194760945033037217:=Nat
def tw8861639938624924278:=Nat
def tw6479528202208409105:=Nat
def tw10595183225998181861:=Nat
def tw5659423068076967750:=Nat
def tw11163645396644751365:=Nat
def tw8839644387250469117:=Nat
def tw1213386555107180023:=Nat
def tw14015262734641195249:=Nat
def tw3104369100868092971:=Nat
def tw10446570913485142627:=Nat
def tw5779370897820372429:=Nat
def tw8269037265232430061:=Nat
def tw15696392778144045943:=Nat
def tw8405546779408384248:=Nat
def tw5818486207288246861:=Nat
def tw1770568139713225725:=Nat
def tw6661591287403491961:=Nat
def tw9505028935037974784:=Nat
def tw12932151346562981960:=Nat
def tw4493123551633957046:=Nat
def tw16627654092286863740:=Nat
def tw5621841753423598850:=Nat
def tw4064630458438067599:=Nat
def tw7309984103412977282:=Nat
def tw18232865009436127039:=Nat
def tw3461508369571394872:=Nat
def tw9112347170346867259:=Nat
def tw2509939547027059826:=Nat
def tw13810206790837544595:=Nat
def tw2814551345071018765:=Nat
def tw704341809873978063:=Nat
def tw15366965091158974056:=Nat
def tw17864780544166670624:=Nat
def tw14069108379661438990:=Nat
def tw14578583398341530675:=Nat
def tw14791830812744206516:=Nat
def tw8553275758125792685:=Nat
def tw7782657185379149198:=Nat
def tw6175718608724032299:=Nat
def tw225833110741015800:=Nat
def tw8402774185410086887:=Nat
def tw5332212513928932000:=Nat
def tw12589247504056149148:=Nat
def tw3182360126381299702:=Nat
def tw13317325403139307758:=Nat
def tw3986447618866042872:=Nat
def tw7988652906690840126:=Nat
def tw877713804516169206:=Nat
def tw4954375701850439563:=Nat
def tw12089076005539848347:=Nat
def tw18434505622667498207:=Nat
def tw5175577782941226006:=Nat
def tw6685999360824238976:=Nat
def tw10671388473143164424:=Nat
def tw6763512342057330108:=Nat
def tw2833821442936686142:=Nat
def tw763697281861016631:=Nat
def tw10822129474541306343:=Nat
def tw10615939212272816685:=Nat
def tw5852450522327148465:=Nat
def tw6634822125823274846:=Nat
def tw10415581071260584392:=Nat
def tw5573022073049502835:=Nat
def tw14238706097173503434:=Nat
def tw18048118330629442281:=Nat
def tw16678940796268764511:=Nat
def tw12024804415629463977:=Nat
def tw2914942376990285758:=Nat
def tw3591543334587572237:=Nat
def tw11735730584918547694:=Nat
def tw12717205294360237611:=Nat
def tw687417865288804923:=Nat
def tw12430477035925932684:=Nat
def tw12898533772148992002:=Nat
def tw8749367905654872261:=Nat
def tw10389788310812684264:=Nat
def tw14802923697276183218:=Nat
def tw8365112002171473432:=Nat
def tw14263372472342910991:=Nat
def tw5977560860287647092:=Nat
def tw4665898099171368681:=Nat
def tw6107206509551673547:=Nat
def tw7547191076466053606:=Nat
def tw11937559332925756034:=Nat
def tw10770159856524869604:=Nat
def tw3924491536539414919:=Nat
def tw10106428399966417634:=Nat
def tw11852185988045965123:=Nat
def tw11780837863998444223:=Nat
def tw549291264941558576:=Nat
def tw3023027603342456169:=Nat
end PySem.W.Fast
open PySem PySem.W PyProof.Rows L2 Lw
set_option maxRecDepth 100000 in
set_option maxHeartbeats 0 in
theorem PySem.Challenge.cw_liftwave_k37_cone_alone_holds : PySem.Challenge.rw_liftwave_k37_cone_alone.Holds := by
 w_on;o_law;k_head;(case hw=>w_witness2)
 k_fill
 refine L2.law_walk (k:=9) (l:=PySem.Challenge.rw_liftwave_k37_cone_alone) rfl rfl ⟨rfl,by decide,by decide⟩ (λw h Y=>PySem.W.kIn_of Y) ?F
 case F=>
  intro w mg fa h X G hfa
  have B:L2.BltV mg:=⟨⟨mz X G,mz X G,mz X G,mz X G,mz X G,mz X G,mz X G,mz X G,mz X G,mz X G,mz X G,mz X G⟩,mz X G,mz X G,mz X G,mz X G,mz X G,mz X G,mz X G,mz X G,mz X G,mz X G⟩
  have KV:=L2.KitV.of2 X (by simp only[kitNs,forall_mem_cons,D.tyN,kitB,String.reduceBEq,Bool.or_false,Bool.false_or,Bool.true_or,not_mem_nil,false_implies,implies_true,and_true];and_intros<;>kit_is)
  have g_HALF:∃t,mg "HALF"=some (.int 0 t):=⟨_,mv X G⟩
  have g_LEFT:∃t,mg "LEFT"=some (.int 1 t):=⟨_,mv X G⟩
  have g_RIGHT:∃t,mg "RIGHT"=some (.int 2 t):=⟨_,mv X G⟩
  have g_ADD:∃t,mg "ADD"=some (.int 3 t):=⟨_,mv X G⟩
  have g_SHIFT:∃t,mg "SHIFT"=some (.int 4 t):=⟨_,mv X G⟩
  have g_HIGH:∃t,mg "HIGH"=some (.int 0 t):=⟨_,mv X G⟩
  have g_WIDE:∃t,mg "WIDE"=some (.int 1 t):=⟨_,mv X G⟩
  have g_LEVELS:∃t,mg "LEVELS"=some (.int 2 t):=⟨_,mv X G⟩
  have g_LADDER:∃t,mg "LADDER"=some (.int 4 t):=⟨_,mv X G⟩
  have g_LEFT_OUT:=csts (w:=w) X G (by k_is) (by k_is)
  have D1:=dmk (x := "plus") (st:=Lw.s_plus) X G
  have D2:=dmk (x := "minus") (st:=Lw.s_minus) X G
  have D3:=dmk (x := "times") (st:=Lw.s_times) X G
  have D4:=dmk (x := "halved") (st:=Lw.s_halved) X G
  have D5:=dmk (x := "holds") (st:=Lw.s_holds) X G
  have D6:=dmk (x := "neighbours") (st:=Lw.s_neighbours) X G
  have D7:=dmk (x := "lifted_places") (st:=Lw.s_lifted_places) X G
  have D8:=dmk (x := "gain_span") (st:=Lw.s_gain_span) X G
  have D9:=dmk (x := "lowered_spans") (st:=Lw.s_lowered_spans) X G
  have D10:=dmk (x := "with_neighbours") (st:=Lw.s_with_neighbours) X G
  have D11:=dmk (x := "needs") (st:=Lw.s_needs) X G
  have D12:=dmk (x := "change_rows") (st:=Lw.s_change_rows) X G
  have D13:=dmk (x := "change_columns") (st:=Lw.s_change_columns) X G
  have D14:=dmk (x := "opened_by") (st:=Lw.s_opened_by) X G
  have D15:=dmkD (x := "opened_spans") (st:=Lw.s_opened_spans) X G
  have D16:=dmk (x := "thinned") (st:=Lw.s_thinned) X G
  have D17:=dmk (x := "level_of") (st:=Lw.s_level_of) X G
  have D18:=dmk (x := "places") (st:=Lw.s_places) X G
  have D19:=dmk (x := "head_places") (st:=Lw.s_head_places) X G
  have D20:=dmk (x := "sheet_of") (st:=Lw.s_sheet_of) X G
  have D21:=dmk (x := "level") (st:=Lw.s_level) X G
  have D22:=dmk (x := "is_run") (st:=Lw.s_is_run) X G
  have D23:=dmk (x := "divided") (st:=Lw.s_divided) X G
  have D24:=dmk (x := "pairs") (st:=Lw.s_pairs) X G
  have D25:=dmk (x := "cone") (st:=Lw.s_cone) X G
  have D26:=dmk (x := "piece") (st:=Lw.s_piece) X G
  have D27:=dmk (x := "_law_cell_at") (st:=Lw.s_law_cell_at) X G
  have D28:=dmk (x := "_law_whole") (st:=Lw.s_law_whole) X G
  have D29:=dmk (x := "_law_spread") (st:=Lw.s_law_spread) X G
  have D30:=dmk (x := "_law_ladder") (st:=Lw.s_law_ladder) X G
  have D31:=dmk (x := "_law_sizes") (st:=Lw.s_law_sizes) X G
  have D32:=dmk (x := "_law_how") (st:=Lw.s_law_how) X G
  have D33:=dmk (x := "_law_order") (st:=Lw.s_law_order) X G
  have D34:=dmk (x := "_law_sheet") (st:=Lw.s_law_sheet) X G
  have D35:=dmk (x := "_law_rectangle") (st:=Lw.s_law_rectangle) X G
  have D36:=dmk (x := "_law_span") (st:=Lw.s_law_span) X G
  have D37:=dmk (x := "_law_spans") (st:=Lw.s_law_spans) X G
  have D38:=dmk (x := "_law_is_sheet") (st:=Lw.s_law_is_sheet) X G
  have D39:=dmk (x := "_law_drawn_spans") (st:=Lw.s_law_drawn_spans) X G
  have D40:=dmk (x := "law") (st:=Lw.s_law) X G
  have n_level:=dnm (x := "level") X G
  have n_lowered_spans:=dnm (x := "lowered_spans") X G
  cases hfa.symm.trans D40.here
  refine lawF D40 (λs v=>.of_eq rfl) λb KB GB=>?_
  generalize OpenLaw.prog PySem.Challenge.rw_liftwave_k37_cone_alone=P
  have c_law_cell_at:=ok_law_cell_at P w b D27 B KV
  have c_law_sizes:=ok_law_sizes P w b D31 B KV
  have c_law_spread:=ok_law_spread P w b D29 B KV
  have c_law_ladder:=ok_law_ladder P w b D30 B KV c_law_spread
  have c_law_how:=ok_law_how P w b D32 B KV c_law_ladder
  have c_law_drawn_spans:=ok_law_drawn_spans P w b D39 B KV c_law_spread
  have c_law_rectangle:=ok_law_rectangle P w b D35 B KV
  have c_law_order:=ok_law_order P w b D33 B KV
  have c_is_run:=ok_is_run P w b D22 B KV
  have c_neighbours:=ok_neighbours P w b D6 B KV
  have c_with_neighbours:=ok_with_neighbours P w b D10 B KV c_neighbours
  have c_needs:=ok_needs P w b D11 B KV g_HALF c_with_neighbours
  have c_pairs:=ok_pairs P w b D24 B KV
  have c_divided:=ok_divided P w b D23 B KV
  have c_cone:=ok_cone P w b D25 B KV g_LEVELS g_HIGH g_WIDE g_LADDER c_is_run c_needs c_pairs c_divided
  have c_level_of:=ok_level_of P w b D17 B KV n_level
  have c_places:=ok_places P w b D18 B KV n_level c_level_of
  have c_head_places:=ok_head_places P w b D19 B KV g_HIGH g_WIDE g_LEVELS c_places
  have c_holds:=ok_holds P w b D5 B KV
  have c_thinned:=ok_thinned P w b D16 B KV
  have c_lifted_places:=ok_lifted_places P w b D7 B KV c_neighbours
  have c_minus:=ok_minus P w b D2 B KV
  have c_plus:=ok_plus P w b D1 B KV
  have c_times:=ok_times P w b D3 B KV
  have c_halved:=ok_halved P w b D4 B KV
  have c_gain_span:=ok_gain_span P w b D8 B KV g_SHIFT g_LEFT g_RIGHT g_ADD c_plus c_times c_halved
  have c_lowered_spans:=ok_lowered_spans P w b D9 B KV g_HALF c_lifted_places c_minus c_gain_span
  have c_change_columns:=ok_change_columns P w b D13 B KV n_lowered_spans c_lowered_spans
  have c_change_rows:=ok_change_rows P w b D12 B KV n_lowered_spans c_lowered_spans
  have c_opened_by:=ok_opened_by P w b D14 B KV c_thinned c_change_columns c_change_rows
  have c_opened_spans:=ok_opened_spans P w b D15 B KV n_lowered_spans c_opened_by
  have c_sheet_of:=ok_sheet_of P w b D20 B KV g_WIDE g_HIGH c_head_places
  have c_level:=ok_level P w b D21 B KV g_LADDER g_LEVELS c_holds c_thinned c_opened_spans c_sheet_of
  have c_piece:=ok_piece P w b D26 B KV g_LEFT_OUT c_cone c_head_places c_level
  have c_law_whole:=ok_law_whole P w b D28 B KV
  have c_law_span:=ok_law_span P w b D36 B KV c_law_whole
  have c_law_spans:=ok_law_spans P w b D37 B KV c_law_span
  have c_law_is_sheet:=ok_law_is_sheet P w b D38 B KV c_law_spans
  have c_law_sheet:=ok_law_sheet P w b D34 B KV c_law_order
  exact ok_law P w b D40 B KV c_law_cell_at c_law_sizes c_law_how c_law_drawn_spans c_law_rectangle c_law_order c_cone c_piece c_law_is_sheet c_opened_spans c_law_sheet